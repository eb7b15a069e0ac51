import PyProof.Rows.All
import Wide.All
import OpenK.AllK
import Wide.FinOn
import Lean
import PyProof.EqAt
import PyProof.EqKinds
import PyProof.TupleCall
import PyProof.AttrMissHeap
import PySem.Challenge.RW_sealchain_k36_lists_that_are_shut
set_option Elab.async false
set_option linter.all false
set_option maxRecDepth 100000
set_option bootstrap.genMatcherCode false
set_option compiler.extract_closed false
set_option maxHeartbeats 40000000
def mY {α:Type _}{a:α}(l:List α){k:List α}(h:a∈k):a∈l++k:=List.mem_append_right l h
def mZ {α:Type _}(b:α){a:α}{l:List α}(h:a∈l):a∈b::l:=List.mem_cons_of_mem b h
def mX {α:Type _}{a:α}{l:List α}:a∈a::l:=List.mem_cons_self
def oX {α g:Type _}{o:Option α}{f:α->Option g}{b:g}(h:o.bind f=some b):∃a,o=some a/\f a=some b:=Option.bind_eq_some_iff.mp h
def oY {α g:Type _}{f:α->g}{o:Option α}{b:g}(h:o.map f=some b):∃a,o=some a/\f a=b:=Option.map_eq_some_iff.mp h
def wX:=@PySem.wpAny_bind
def wY:=@PySem.wpAny_pure
def vZ:=@PySem.Heap.get?_push_of_some
def vY:=@PySem.Heap.get?_push_size
def vX:=@PySem.Heap.lt_size
def vW:=@PySem.Heap.SameBut.update
def vV {α:Type _}{l:List α}{i:Nat}{a:α}(h:l[i]? = some a):∃h:i<l.length,l[i]=a:=List.getElem?_eq_some_iff.mp h
def vU {α:Type _}{l:List α}{i:Nat}(h:i<l.length):l[i]? = some l[i]:=List.getElem?_eq_getElem h
def vT (n:Nat):n<=n:=Nat.le_refl n
def vS {a b:Nat}(h:a<b):a≠b:=Nat.ne_of_lt h
def vR {n m k:Nat}:n<=m->m<=k->n<=k:=Nat.le_trans
def vQ {n m k:Nat}:n<m->m<=k->n<k:=Nat.lt_of_lt_of_le
def vP {α:Type _}{a b:α}{l:List α}(h:b∈a::l):b=a∨b∈l:=List.mem_cons.mp h
def vO {α g:Type _}{b:g}{f:α->g}{l:List α}(h:b∈l.map f):∃a,a∈l/\f a=b:=List.mem_map.mp h
def vN {α:Type _}{a:α}{p:α->Bool}{l:List α}(h:a∈l.filter p):a∈l/\p a=true:=List.mem_filter.mp h
def vM {α:Type _}(p:α->Bool)(l:List α):(l.filter p).length<=l.length:=List.length_filter_le p l
def vL {α:Type _}{l:List α}{i:Nat}{a:α}(h:l[i]? = some a):a∈l:=List.mem_of_getElem? h
def vK {α:Type _}{a b:α}(h:some a=some b):a=b:=Option.some.inj h
def vJ {α g:Type _}(a:α)(f:α->Option g):(some a).bind f=f a:=rfl
def vI {α G:Type _}{g:List α}(f:α->G):(g.map f).length=g.length:=List.length_map f
def vH {α:Type _}{l:List α}:l.toArray.size=l.length:=rfl
def vG {α:Type _}{xs:Array α}:xs.toList.length=xs.size:=rfl
def vF {α:Type _}{l:List α}{i:Nat}{a:α}:l.getD i a=l[i]?.getD a:=List.getD_eq_getElem?_getD
def vE {α:Type _}{a:α}{g:List α}:(a::g).length=g.length+1:=rfl
def vC (a b:Bool):((a && b)=true)=(a=true/\b=true):=Bool.and_eq_true a b
def vB {α:Type _}{i j:Nat}{a:α}{l:List α}(h:i≠j):(l.set i a)[j]? = l[j]?:=List.getElem?_set_ne h
def vA {α g:Type _}{f:α->g}{l:List α}{i:Nat}:(l.map f)[i]? = Option.map f l[i]?:=List.getElem?_map
def uZ {α:Type _}{g bs:List α}:(g++bs).length=g.length+bs.length:=List.length_append
def uY {α g:Type _}{f:α->g}{a:α}{l:List α}:(a::l).map f=f a::l.map f:=rfl
def uX:false≠true:=Bool.false_ne_true
def uW {α G:Type _}{f:α->G}{l g:List α}:(l++g).map f=l.map f++g.map f:=List.map_append
def uV:(false=true)=False:=Bool.false_eq_true
def uU {α:Type _}{x:Option α}(h:x.isSome=true):∃a,x=some a:=Option.isSome_iff_exists.mp h
def uT {α:Type _}{a b:α}(h:a∈[b]):a=b:=List.mem_singleton.mp h
def uS {α g:Type _}{b:g}{f:α->g}{l:List α}(h:∃a,a∈l/\f a=b):b∈l.map f:=List.mem_map.mpr h
def uR {α:Type _}{l:List α}{p:α->Bool}(h:l.all p=true):∀x∈l,p x=true:=List.all_eq_true.mp h
def uQ {α:Type _}(g:List α):g++[]=g:=List.append_nil g
def uP {α G M:Type _}{g:G->M}{f:α->G}{l:List α}:(l.map f).map g=l.map (g ∘ f):=List.map_map
def uO {α g:Type _}{x:α}{xs:List α}{f:α->List g}:(x::xs).flatMap f=f x++xs.flatMap f:=List.flatMap_cons
def uN (n:Nat):0<=n:=Nat.zero_le n
noncomputable section
open PySem.W (Frag kia_one fnOf nsIn mg_of)
open List (mem_filter mem_range mem_append mem_append_left getElem?_set_self mem_filterMap nodup_cons of_mem_zip length_take getElem?_replicate getElem?_append_left take_sublist length_replicate length_drop length_set all_cons any_cons replicate_succ flatten_cons append_assoc foldl_cons length_singleton nil_append map_nil find?_cons length_nil filter_cons nodup_nil lookup_cons not_mem_nil length_range mem_singleton lookup_cons_self take_of_length_le pairwise_cons mem_iff_getElem? getElem?_drop pairwise_map mem_map getElem_mem nodup_append foldl_append getElem?_cons_succ take_add_one mem_cons getElem?_eq_none ext_getElem? not_lt le_trans le_antisymm lt_irrefl lt_trans nil_perm cons_lt_cons_iff cons_append zip_cons_cons getD_cons_succ getElem?_zip_eq_some length_zip zipWith_cons_cons take_length all_eq_true all_nil length_zipIdx zip_map' filter_sublist flatMap_nil filter_cons_of_pos filter_cons_of_neg filter_append map_id any_eq_true)
open Nat (le_of_lt ne_of_gt le_of_eq lt_succ_self le_succ_of_le le_succ lt_of_le_of_lt lt_succ_of_lt zero_add)
open Bool (beq_eq_decide_eq eq_false_iff not_eq_true or_eq_true)
open Int (toNat_natCast le_refl)
open Array (getElem_toList getD_eq_getD_getElem? getElem?_eq_getElem getElem?_toList toList_push toList_inj)
open Option (getD_none isSome_map toList_some map_some)
open PySem.F (slot_tuple_add entry_tuple_add args_tuple_add_2 slot_dict_get entry_dict_get plainAttrs_dict plainAttrs_list slot_tuple_iterator_next plain_set_new called_set slot_set_iter slot_tuple_lt slot_tuple_gt slot_list_getattribute)
abbrev QV:=PySem.Value->PySem.Shared->Prop
abbrev AO:=List (PySem.Addr×PySem.Obj)
abbrev SV:=PySem.Str->Option PySem.Value
abbrev LU:=List PySem.Value
abbrev AV:=Array PySem.Value
abbrev LS:=List PySem.Str
abbrev QD:=List PySem.Expr
abbrev LN:=List Nat
abbrev LI:=List Int
abbrev OI:=Option Int
namespace L2
open PySem PySem.Spec PyProof.Rows
abbrev dD:=Sum Int Str
noncomputable def sM:dD->Value->Bool
 |.inl k,v=>Value.isInt k v
 |.inr x,v=>Value.isStrOf x v
noncomputable def Qb (w:World):dD->Int
 |.inl k=>hashInt k
 |.inr x=>hashStr w x
theorem cC:∀ {k:dD}{v:Value},sM k v=true->(∃i t,k=Sum.inl i/\v=Value.int i t)∨(∃x t,k=Sum.inr x/\v=Value.str x t)
 |.inl i,v,h=>by
  obtain⟨t,e⟩:=Value.isInt_shape (k:=i) (v:=v) h;exact .inl ⟨i,t,rfl,e⟩
 |.inr x,v,h=>by
  obtain⟨t,e⟩:=Value.isStrOf_shape (x:=x) (v:=v) h;exact .inr ⟨x,t,rfl,e⟩
def Co (i:Int)(t:Tok):sM (.inl i) (.int i t)=true:=by simp[sM,Value.isInt]
def Cp (x:Str)(t:Tok):sM (.inr x) (.str x t)=true:=by simp[sM,Value.isStrOf]
def Ke (a b:Int):decide ((Sum.inl a:dD)=Sum.inl b)=(a == b):=by
 by_cases e:a=b
 ·subst e;simp
 ·have h:¬(Sum.inl a:dD)=Sum.inl b:=λq=>e (Sum.inl.inj q);rw[decide_eq_false h];exact(beq_eq_false_iff_ne.mpr e).symm
def Kf (a b:Str):decide ((Sum.inr a:dD)=Sum.inr b)=decide (a=b):=by
 by_cases e:a=b
 ·subst e;simp
 ·have h:¬(Sum.inr a:dD)=Sum.inr b:=λq=>e (Sum.inr.inj q);rw[decide_eq_false h,decide_eq_false e]
def Kg (a:Int)(b:Str):decide ((Sum.inl a:dD)=Sum.inr b)=false:=decide_eq_false (λq=>nomatch q)
def Kh (a:Str)(b:Int):decide ((Sum.inr a:dD)=Sum.inl b)=false:=decide_eq_false (λq=>nomatch q)
def cq (prog:Program)(w:World):PySem.KeyKind prog w dD where
 is:=sM
 hash:=Qb w
 inj:=λv a b ha hb=>by
  rcases cC ha with⟨i,t,rfl,rfl⟩|⟨x,t,rfl,rfl⟩
  ·rcases cC hb with⟨j,u,rfl,e⟩|⟨y,u,rfl,e⟩
   ·injection e with g _;rw[g]
   ·exact nomatch e
  ·rcases cC hb with⟨j,u,rfl,e⟩|⟨y,u,rfl,e⟩
   ·exact nomatch e
   ·injection e with g _;rw[g]
 byValue:=λk v h=>by
  rcases cC h with⟨i,t,rfl,rfl⟩|⟨x,t,rfl,rfl⟩<;>rfl
 pyHash:=λhv h=>by
  rcases cC hv with⟨i,t,rfl,rfl⟩|⟨x,t,rfl,rfl⟩
  ·exact wpAny_pyHash_int h
  ·exact wpAny_pyHash_str h
 eqBool:=λhu hv h=>by
  rcases cC hu with⟨i,t,rfl,rfl⟩|⟨x,t,rfl,rfl⟩
  ·rcases cC hv with⟨j,u,rfl,rfl⟩|⟨y,u,rfl,rfl⟩
   ·rw[Ke]at h;exact wpAny_eqBool_int h
   ·rw[Kg]at h;exact SeqAt.EqAt.int_str i t y u _ _ _ _ h
  ·rcases cC hv with⟨j,u,rfl,rfl⟩|⟨y,u,rfl,rfl⟩
   ·rw[Kh]at h;exact SeqAt.EqAt.str_int x t j u _ _ _ _ h
   ·rw[Kf]at h;exact wpAny_eqBool_str h
 «strs»:=λk x t v h=>by
  rcases cC h with⟨i,u,rfl,e⟩|⟨y,u,rfl,e⟩
  ·exact nomatch e
  ·injection e with g _;subst g;cases v<;>rfl
def wT (prog:Program)(w:World)(i:Int)(t:Tok):(cq prog w).is (.inl i) (.int i t)=true:=Co i t
def wU (prog:Program)(w:World)(x:Str)(t:Tok):(cq prog w).is (.inr x) (.str x t)=true:=Cp x t
inductive V where
 |non|bl (b:Bool)|int (i:Int)|str (x:Str)|byt (b:Array UInt8)|flt (b:UInt64)|ref (a:Addr)|ty (n:String)
 deriving DecidableEq
def aU:V->Value->Prop
 |.non,u=>u=Value.none
 |.bl b,u=>u=Value.bool b
 |.int i,u=>∃t,u=Value.int i t
 |.str x,u=>∃t,u=Value.str x t
 |.byt b,u=>∃t,u=Value.bytes b t
 |.flt b,u=>∃t,u=Value.float b t
 |.ref a,u=>u=Value.ref a
 |.ty n,u=>u=Value.type n
abbrev bc:List V->LU->Prop:=Paired aU
def bc.length (r:bc xs us):xs.length=us.length:=Paired.length r
theorem bc.get:∀ {xs:List V}{us:LU}{i:Nat}{x:V},bc xs us->xs[i]? = some x->∃u,us[i]? = some u/\aU x u
 |_,_,_,_,.nil,e=>by simp at e
 |_,_,0,_,.cons r _,e=>by simp at e;subst e;exact⟨_,rfl,r⟩
 |_,_,i+1,x,.cons _ t,e=>by
  obtain⟨u,h1,h2⟩:=bc.get (i:=i) (x:=x) t (by simpa using e);exact⟨u,by simpa using h1,h2⟩
theorem bc.set (r:aU x u):∀ {xs:List V}{us:LU}(i:Nat),bc xs us->bc (xs.set i x) (us.set i u)
 |_,_,_,.nil=>.nil
 |_,_,0,.cons _ t=>.cons r t
 |_,_,i+1,.cons q t=>.cons q (bc.set r i t)
theorem bc.append:∀ {xs ys:List V}{us g:LU},bc xs us->bc ys g->bc (xs++ys) (us++g)
 |_,_,_,_,.nil,s=>s
 |_,_,_,_,.cons r t,s=>.cons r (bc.append t s)
theorem bc.take:∀ {xs:List V}{us:LU}(n:Nat),bc xs us->bc (xs.take n) (us.take n)
 |_,_,0,_=>.nil
 |_,_,_+1,.nil=>.nil
 |_,_,n+1,.cons r t=>.cons r (bc.take n t)
theorem bc.drop:∀ {xs:List V}{us:LU}(n:Nat),bc xs us->bc (xs.drop n) (us.drop n)
 |_,_,0,r=>r
 |_,_,_+1,.nil=>.nil
 |_,_,n+1,.cons _ t=>bc.drop n t
def bc.none_of:∀ {xs:List V}{us:LU}{i:Nat},bc xs us->xs[i]? = none->us[i]? = none:=λ{xs us i} r e=>by
 have h1:=r.length;have h2:xs.length<=i:=List.getElem?_eq_none_iff.mp e;exact List.getElem?_eq_none_iff.mpr (by omega)
def kZ:Option V->Option Value->Prop
 |some v,some u=>aU v u
 |none,none=>True
 |_,_=>False
def KV {κ:Type}:List (κ×V)->List (κ×Value)->Prop:=Paired λ(p:κ×V) (q:κ×Value)=>p.1=q.1/\aU p.2 q.2
noncomputable def kV:dD->V
 |.inl i=>.int i
 |.inr x=>.str x
inductive HO where
  |lst (xs:List V)
  |tup (xs:List V)
  |dK (aG:List (dD×V)) (ob:Obj)|dT (aG:List (List dD×V))
  |set (S:Int->Bool) (n:Nat)
  |ins (C dx:Addr) (fs:List (Str×V))
  |own (x:Addr)
  |xd (fs:List (Str×V))
  |met (f x:Addr)
  |rng (lo hi:Int)
  |frz (o:Obj) (u:HO)
  |tbl (q:Str)
  |ext (φ:Heap->Prop)
abbrev Hp:=Addr->Option HO
noncomputable def upd (H:Hp)(a:Addr)(o:HO):Hp:=λb=>if b=a then some o else H b
def aC:upd H a o a=some o:=by unfold upd;rw[if_pos rfl]
def aJ (h:b≠a):upd H a o b=H b:=by unfold upd;rw[if_neg h]
def G0:upd (upd H a o) a u=upd H a u:=by
 funext b;unfold upd;split<;>rfl
def MO {H:Hp}{a b:Addr}{o u:HO}(h:H a=some o)(h':H b=some u)(d:o≠u):a≠b:=by
 intro e;subst e;rw[h]at h';exact d (vK h')
def bd {H:Hp}{a b:Addr}{o:HO}(h:H a=some o)(h':H b=none):a≠b:=by
 intro e;subst e;rw[h]at h';cases h'
section
variable (P:Program) (w:World)
def bO (H:Hp)(h:Heap)(a:Addr):HO->Prop
 |.lst xs=>xs.length<=sizeLine/\∃(its:LU)(n:Nat),bc xs its/\h.get? a=some { cls:=.type "list",data:=.seq its.toArray n }
 |.tup xs=>xs.length<=sizeLine/\∃its:LU,bc xs its/\IsTup h a its.toArray
 |.dK aG ob=>h.get? a=some ob/\aG.length<=sizeLine/\(a == sysModules)=false/\∃vs,KV aG vs/\h.DictOf (cq P w) a vs
 |.dT aG=>aG.length<=sizeLine/\(a == sysModules)=false/\∃xs:List (List dD×Addr×Value),
   Paired (λ(p:List dD×V) (q:List dD×Addr×Value)=>p.1=q.1/\H q.2.1=some (.tup (p.1.map kV))/\aU p.2 q.2.2) aG xs /\
   ∃o es M,h.get? a=some o/\o.ExactDict/\o.data=.dict es M/\es.toList=xs.map (entryOfKey (tupleKind (cq P w)))/\(xs.map (·.1)).Nodup
 |.set S n=>h.SetOf (intKind P w) a S n
 |.ins C dx fs=>H dx=some (.own a)/\fs.length<=1000/\dx≠a/\h.get? a=some (PySem.W.instObj C dx) /\
   ∃mA,h.Ns1 dx mA/\(∀f,kZ (fs.lookup f) (mA f))/\PySem.Within mA (fs.map (·.1))
 |.own _=>∃o,h.get? a=some o
 |.xd fs=>∃mA,h.Ns1 a mA/\∀f,kZ (fs.lookup f) (mA f)
 |.rng lo hi=>∃t u v,h.get? a=some { cls:=.type "range",data:=.fields #[.int lo t,.int hi u,.int 1 v] }
 |.frz o u=>h.get? a=some o/\bO H h a u
 |.tbl q=>∃ps:AV,h.get? a=some { cls:=.none,data:=.fields ps }/\TriplesOk ps.toList/\∀g G,codeAmong g ps.toList=some G->∃(c:Addr)(oc:Obj)(u:HO)(vs:AV)(t:Tok),G=.ref c/\H c=some (.frz oc u)/\oc.data=.fields vs/\vs[1]? = some (.str q t)
 |.met f x=>h.get? a=some (PySem.W.methodObj (.ref f) (.ref x))
 |.ext φ=>φ h/\(∃o,h.get? a=some o)/\∀h1 h2:Heap,φ h1->(∀o,h1.get? a=some o->h2.get? a=some o)->φ h2
def la (H:Hp)(h:Heap):Prop:=∀a o,H a=some o->bO P w H h a o
end
section
variable {P:Program}{w:World}{H H':Hp}{h h':Heap}{a:Addr}{o:HO}
def bO.lt (x:bO P w H h a o):a<h.objs.size:=by
 cases o with
 |lst xs=>obtain⟨_,_,_,_,e⟩:=x;exact vX e
 |tup xs=>obtain⟨_,_,_,p⟩:=x;exact p.lt
 |dK aG ob=>exact vX (And.left x)
 |dT aG=>obtain⟨_,_,_,_,o,_,_,e,_⟩:=x;exact vX e
 |set S n=>obtain⟨o,_,_,_,e,_⟩:=x;exact vX e
 |ins C dx fs=>obtain⟨_,_,_,e,_⟩:=x;exact vX e
 |own y=>obtain⟨_,e⟩:=x;exact vX e
 |xd fs=>obtain⟨_,⟨_,_,_,e,_⟩,_⟩:=x;exact vX e
 |rng lo hi=>obtain⟨_,_,_,e⟩:=x;exact vX e
 |frz ob u=>obtain⟨e,_⟩:=x;exact vX e
 |tbl q=>obtain⟨_,e,_⟩:=x;exact vX e
 |met f y=>exact vX (show h.get? a=some _ from x)
 |ext φ=>obtain⟨_,⟨_,e⟩,_⟩:=x;exact vX e
theorem Paired.mapP {α O:Type}{F G:α->O->Prop}:∀ {g:List α}{M:List O},Paired F g M->(∀a b,F a b->G a b)->Paired G g M
 |_,_,.nil,_=>.nil
 |_,_,.cons r t,f=>.cons (f _ _ r) (Paired.mapP t f)
def bO.stay (x:bO P w H h a o)(k:∀b u,(b=a∨H b=some (.own a))->h.get? b=some u->h'.get? b=some u)
  (O:∀b,H b=some (.own a)->H' b=some (.own a)) (T:∀b xs,H b=some (.tup xs)->H' b=some (.tup xs)) (hf:∀b o u,H b=some (.frz o u)->H' b=some (.frz o u)):bO P w H' h' a o:=by
 induction o with
 |lst xs=>obtain⟨z,its,n,r,e⟩:=x;exact⟨z,its,n,r,k _ _ (.inl rfl) e⟩
 |tup xs=>obtain⟨z,its,r,ob,e,c⟩:=x;exact⟨z,its,r,ob,k _ _ (.inl rfl) e,c⟩
 |dK aG U=>obtain⟨g,z,y,vs,r,ob,es,G,e,c⟩:=x;exact⟨k _ _ (.inl rfl) g,z,y,vs,r,ob,es,G,k _ _ (.inl rfl) e,c⟩
 |dT aG=>
  obtain⟨z,y,xs,r,ob,es,G,e,c⟩:=x;exact⟨z,y,xs,Paired.mapP r λp q z=>⟨z.1,T _ _ z.2.1,z.2.2⟩,ob,es,G,k _ _ (.inl rfl) e,c⟩
 |set S n=>obtain⟨ob,es,G,t,e,c⟩:=x;exact⟨ob,es,G,t,k _ _ (.inl rfl) e,c⟩
 |ins C dx fs=>
  obtain⟨d,z,ne,e,mA,⟨od,es,G,e2,c⟩,r⟩:=x;exact⟨O _ d,z,ne,k _ _ (.inl rfl) e,mA,⟨od,es,G,k _ _ (.inr d) e2,c⟩,r⟩
 |own y=>obtain⟨ob,e⟩:=x;exact⟨ob,k _ _ (.inl rfl) e⟩
 |xd fs=>obtain⟨mA,⟨od,es,G,e,c⟩,r⟩:=x;exact⟨mA,⟨od,es,G,k _ _ (.inl rfl) e,c⟩,r⟩
 |rng lo hi=>obtain⟨t,u,v,e⟩:=x;exact⟨t,u,v,k _ _ (.inl rfl) e⟩
 |frz ob u ih=>obtain⟨e,q⟩:=x;exact⟨k _ _ (.inl rfl) e,ih q⟩
 |tbl q=>obtain⟨ps,e,t,c⟩:=x;exact⟨ps,k a _ (.inl rfl) e,t,λM cv z=>let ⟨d,oc,u,vs,tk,z1,z2,z3⟩:=c M cv z;⟨d,oc,u,vs,tk,z1,hf _ _ _ z2,z3⟩⟩
 |met f y=>
  have e:h.get? a=some (PySem.W.methodObj (.ref f) (.ref y)):=x;show h'.get? a=some (PySem.W.methodObj (.ref f) (.ref y));exact k a _ (.inl rfl) e
 |ext φ=>obtain⟨p,⟨o,e⟩,st⟩:=x;exact⟨st _ _ p λo q=>k _ _ (.inl rfl) q,⟨o,k _ _ (.inl rfl) e⟩,st⟩
def la.lt (x:la P w H h)(e:H a=some o):a<h.objs.size:=(x a o e).lt
def la.fresh (x:la P w H h)(e:h.objs.size<=a):H a=none:=by
 cases q:H a with
 |none=>rfl
 |some u=>exact absurd (vQ (x.lt q) e) (Nat.lt_irrefl _)
def la.kept (x:la P w H h)(k:∀b u,h.get? b=some u->h'.get? b=some u):la P w H h':=λa o e=>
 (x a o e).stay (λb u _ q=>k b u q) (λ_ q=>q) (λ_ _ q=>q) λ_ _ _ q=>q
def la.laid (x:la P w H h)(k:∀b u,h.get? b=some u->h'.get? b=some u)(hp:h.objs.size<=a)(new:bO P w (upd H a o) h' a o):la P w (upd H a o) h':=λb u e=>by
 have hn:=x.fresh hp;by_cases hb:b=a
 ·subst hb;rw[aC]at e;cases e;exact new
 ·rw[aJ hb]at e;exact(x b u e).stay (λc v _ q=>k c v q) (λc q=>by rw[aJ (bd q hn)];exact q) (λc xs q=>by rw[aJ (bd q hn)];exact q) λc o xs q=>by rw[aJ (bd q hn)];exact q
end
def Rd (H:Hp)(a:Addr)(u:HO):Prop:=H a=some u∨∃o,H a=some (.frz o u)
def Rd.of (h:H a=some u):Rd H a u:=.inl h
def Rd.ok (r:Rd H a u)(x:la P w H h):bO P w H h a u:=by
 rcases r with r|⟨o,r⟩
 ·exact x a u r
 ·obtain⟨_,q⟩:=x a _ r;exact q
def MP:Option HO->Prop
 |some (.lst _)=>True
 |some (.dK _ _)=>True
 |some (.dT _)=>True
 |some (.set _ _)=>True
 |some (.ins _ _ _)=>True
 |some (.ext _)=>True
 |_=>False
section
variable {P:Program}{w:World}{H:Hp}{h h':Heap}{x e:Addr}{o':HO}
def la.write (ok:la P w H h)(M:MP (H x))(he:e=x∨H e=some (.own x))(k:∀b u,b≠e->h.get? b=some u->h'.get? b=some u)(T:∃u,h'.get? e=some u)
  (new:bO P w (upd H x o') h' x o'):la P w (upd H x o') h':=λb u q=>by
 have G:∀c y,H c=some (.own y)->c≠x:=λc y r z=>by subst z;rw[r]at M;exact M
 have O:∀c xs,H c=some (.tup xs)->c≠x:=λc xs r z=>by subst z;rw[r]at M;exact M
 by_cases hb:b=x
 ·subst hb;rw[aC]at q;cases q;exact new
 ·rw[aJ hb]at q;by_cases g:b=e
  ·have U:H b=some (.own x):=by
    rcases he with z|z
    ·exact absurd (g.trans z) hb
    ·rw[g];exact z
   rw[q]at U;cases U;obtain⟨v,hv⟩:=T;exact⟨v,by rw[g];exact hv⟩
  ·refine(ok b u q).stay (λc v hc r=>k c v ?_ r) (λc r=>by rw[aJ (G c b r)];exact r) (λc xs r=>by rw[aJ (O c xs r)];exact r) λc o xs r=>by rw[aJ (λz=>by subst z;rw[r]at M;exact M)];exact r
   rcases hc with rfl|hc
   ·exact g
   ·rintro rfl;rcases he with z|z
    ·exact G c b hc z
    ·rw[hc]at z;cases z;exact hb rfl
end
structure Un (fs ex:List Addr)(H H':Hp)(h h':Heap):Prop where
 keep:∀b o,h.get? b=some o->H b=none->b∉fs->b∉ex->h'.get? b=some o
 slot:∀b o,h.get? b=some o->H b=none->b∈fs->b∉ex->∃sl,h'.get? b=some { o with slots:=sl }
 free:∀b o,h.get? b=some o->H b=none->b∉ex->H' b=none
 there:∀b o,h.get? b=some o->b∉ex->∃o',h'.get? b=some o'
 tups:∀b xs,H b=some (.tup xs)->H' b=some (.tup xs)
 frzs:∀b o u,H b=some (.frz o u)->H' b=some (.frz o u)
 tbls:∀b q,H b=some (.tbl q)->H' b=some (.tbl q)
section
variable {fs Vf ex Xp:List Addr}{H H1 H2:Hp}{h h1 h2 h':Heap}{a x e:Addr}{o:HO}
def Un.any (u:Un fs ex H H1 h h1)(q:h.get? b=some ob)(n:H b=none)(hx:b∉ex):∃sl,h1.get? b=some { ob with slots:=sl }:=by
 by_cases hb:b∈fs
 ·exact u.slot b ob q n hb hx
 ·exact⟨ob.slots,u.keep b ob q n hb hx⟩
def Un.trans (a:Un fs ex H H1 h h1)(b:Un fs ex H1 H2 h1 h2):Un fs ex H H2 h h2 where
 keep:=λc ob q n hc hx=>b.keep c ob (a.keep c ob q n hc hx) (a.free c ob q n hx) hc hx
 slot:=λc ob q n hc hx=>by
  obtain⟨sl,g⟩:=a.slot c ob q n hc hx;obtain⟨G,e2⟩:=b.slot c _ g (a.free c ob q n hx) hc hx;exact⟨G,e2⟩
 free:=λc ob q n hx=>by
  obtain⟨o',g⟩:=a.there c ob q hx;exact b.free c o' g (a.free c ob q n hx) hx
 there:=λc ob q hx=>by
  obtain⟨o',g⟩:=a.there c ob q hx;exact b.there c o' g hx
 tups:=λc xs q=>b.tups c xs (a.tups c xs q)
 frzs:=λc ob xs q=>b.frzs c ob xs (a.frzs c ob xs q)
 tbls:=λc ps q=>b.tbls c ps (a.tbls c ps q)
def Un.kept (k:∀b u,h.get? b=some u->h'.get? b=some u):Un fs ex H H h h' :=
 ⟨λb ob q _ _ _=>k b ob q,λb ob q _ _ _=>⟨ob.slots,k b ob q⟩,λ_ _ _ n _=>n,λb ob q _=>⟨ob,k b ob q⟩,λ_ _ q=>q,λ_ _ _ q=>q,λ_ _ q=>q⟩
def Un.refl:Un fs ex H H h h:=Un.kept λ_ _ q=>q
def Un.laid (k:∀b u,h.get? b=some u->h'.get? b=some u)(hp:h.objs.size<=a)(hn:H a=none):Un fs ex H (upd H a o) h h' where
 keep:=λb u q _ _ _=>k b u q
 slot:=λb u q _ _ _=>⟨u.slots,k b u q⟩
 free:=λb u q n _=>by rw[aJ (vS (vQ (vX q) hp))];exact n
 there:=λb u q _=>⟨u,k b u q⟩
 tups:=λb xs q=>by rw[aJ (bd q hn)];exact q
 frzs:=λb u xs q=>by rw[aJ (bd q hn)];exact q
 tbls:=λb ps q=>by rw[aJ (bd q hn)];exact q
def Un.write (G:MP (H x))(he:e=x∨H e=some (.own x))(k:∀b u,b≠e->h.get? b=some u->h'.get? b=some u)(M:∃u,h'.get? e=some u):Un fs ex H (upd H x o) h h':=by
 have hx:∀b,H b=none->b≠x:=λb n z=>by subst z;rw[n]at G;exact G
 have hb:∀b,H b=none->b≠e:=λb n z=>by
  subst z;rcases he with r|r
  ·exact hx b n r
  ·rw[n]at r;cases r
 have hm:∀b u,H b=some u->¬MP (some u)->b≠x:=λb u q nm z=>by subst z;rw[q]at G;exact nm G
 refine⟨λb u q n _ _=>k b u (hb b n) q,λb u q n _ _=>⟨u.slots,k b u (hb b n) q⟩,λb u q n _=>by rw[aJ (hx b n)];exact n,λb u q _=>?_,
  λb xs q=>by rw[aJ (hm b _ q λz=>z)];exact q,λb u xs q=>by rw[aJ (hm b _ q λz=>z)];exact q,λb ps q=>by rw[aJ (hm b _ q λz=>z)];exact q⟩
 by_cases g:b=e
 ·subst g;exact M
 ·exact⟨u,k b u g q⟩
end
noncomputable def Pw (h:Heap)(H:Hp):List Addr:=(List.range h.objs.size).filter λa=>(H a).isSome
def wV (h:Heap)(H:Hp):Heap:=PySem.W.hideAll h (Pw h H)
def Cq (h:Heap)(H:Hp):(wV h H).objs.size=h.objs.size:=PySem.W.hideAll_size _ _
def p9 (e:h.get? b=some o)(n:H b=none):(wV h H).get? b=some o :=
 PySem.W.hideAll_get _ e λhm=>by
  have q:(H b).isSome=true:=(vN hm).2;rw[n]at q;simp at q
def G1 (e:(wV h H).get? b=some o):h.get? b=some o/\H b=none:=by
 have g:h.get? b=some o:=PySem.W.of_hideAll (Pw h H) e;refine⟨g,?_⟩;cases q:H b with
 |none=>rfl
 |some x=>
  have hm:b∈Pw h H:=mem_filter.mpr ⟨mem_range.mpr (vX g),by simp[q]⟩;have z:(wV h H).get? b=none:=PySem.W.hideAll_none (Pw h H) hm;rw[z]at e;cases e
noncomputable def G2 (g h:Heap)(L:Addr):AO:=(List.range h.objs.size).filterMap λa=>if a=L∨(g.get? a).isSome=true then none else (h.get? a).map λo=>(a,o)
def aA (g h:Heap)(L d:Addr):AO:=(G2 g h L).filter λp=>decide (p.1≠d)
structure Mod (K:Frag)(mg:Str->Option Value)(base:Heap):Prop where
 kin:K.In base
 glob:base.Ns mainGlobals mg
 blt:∃mb,base.Ns builtinsNs mb/\∀x:Str,x ≠ "__name__"->mb x=bootBuiltins x
 nolimit:base.NoLimit
 bmain:∃bm ob,mg "__builtins__" = some (.ref bm)/\bm≠builtinsNs/\base.get? bm=some ob/\ob.cls=.type "module"/\ob.dict=some builtinsNs/\ob.data=.plain
structure Cx where
 prog:Program
 w:World
 K:Frag
 mg:Str->Option Value
 base:Heap
 A:Around
 N:List Str
 s₀:Shared
 H₀:Hp
 env:Env
 outer:List Env
 stack:List Env
 ex:List Addr
 fn:Str->Bool
 calm:Bool
 pn:List (Addr×Obj)
 xe:Value->Shared->Prop
noncomputable def D8 (l:List Env):List Addr:=l.filterMap (·.frame)
abbrev Cx.fs (X:Cx):List Addr:=D8 X.outer
def Ki (sc:Scope)(x:Str):Prop:=sc.names.lookup x=some .local∨sc.names.lookup x=some .cell∨sc.names.lookup x=some .free
def DC (sc:Scope)(x:Str):Prop:=sc.names.lookup x=some .local∨sc.names.lookup x=some .cell
def Qc (env:Env)(h:Heap)(m:SV)(x:Str)(u:Value):Prop :=
 (env.kindOf x=some .local/\m x=some u)∨((env.kindOf x=some .cell∨env.kindOf x=some .free)/\∃c,env.cells.lookup x=some c/\h.IsCell c (some u))
abbrev wq {α:Type}(X:Cx):Sem α->(α->Shared->Prop)->(Value->Shared->Prop)->Shared->Prop:=wpAny (model X.prog X.w) X.A
structure Cx.Ok (X:Cx):Prop where
 mod:Mod X.K X.mg X.base
 kind:X.env.scope.kind=.function
 glob:X.env.globals=mainGlobals
 blt:X.env.builtins=builtinsNs
 above:X.s₀.heap.objs.size<=X.env.locals
 inj:∀x y c,X.env.cells.lookup x=some c->X.env.cells.lookup y=some c->x=y
 has:∀x,(X.env.kindOf x=some .cell∨X.env.kindOf x=some .free)->∃c,X.env.cells.lookup x=some c
 cab:∀x c,X.fn x=true->X.env.cells.lookup x=some c->X.s₀.heap.objs.size<=c
 hd:X.calm=true->X.A.handled=none
 frames:X.A.frames=some X.stack
 stk:X.stack=X.outer∨(X.stack=X.env::X.outer/\X.env.frame=some X.env.locals)
 exf:∀b∈X.ex,b≠X.env.locals/\∀x c,X.env.cells.lookup x=some c->c≠b
 bs:∀b o,X.base.get? b=some o->X.s₀.heap.get? b=some o/\X.H₀ b=none
 bsz:X.base.objs.size<=X.s₀.heap.objs.size
 noex:∀b o,X.base.get? b=some o->b∉X.ex
 exfs:∀b∈X.ex,b∉X.fs
 funs:X.s₀.heap.FunFrames X.base X.outer
 frf:∀b∈X.fs,X.H₀ b=none
structure Inv (X:Cx)(ae:List (Addr×Obj))(σ:List (Option V))(H:Hp)(s:Shared):Prop where
 ok:X.Ok
 os:s.os=X.s₀.os
 bare:AllBare s.gens
 base:Un X.fs X.ex X.H₀ H X.s₀.heap s.heap
 loc:∃m,s.heap.Ns X.env.locals m/\∀(i:Nat)(x:Str)(v:V),X.N[i]? = some x->σ[i]? = some (some v)->Ki X.env.scope x->∃u,aU v u/\Qc X.env s.heap m x u
 cell:∀x c,X.env.cells.lookup x=some c->∃v,s.heap.IsCell c v
 free:H X.env.locals=none
 freeC:∀x c,X.env.cells.lookup x=some c->H c=none
 pin:∀p∈X.pn++ae,s.heap.get? p.1=some p.2/\H p.1=none/\p.1≠X.env.locals/\p.1∉X.fs/\∀v,p.2.data≠.cell v
 hok:la X.prog X.w H s.heap
 len:σ.length=X.N.length
section
variable {X:Cx}{ae:AO}{σ:List (Option V)}{H H':Hp}{s:Shared}{h':Heap}
def Cx.Ok.nofr (ok:X.Ok)(e:X.base.get? b=some o):b∉X.fs:=λhb=>by
 have:=(ok.funs.mem hb).1;rw[e]at this;cases this
def Inv.bs (I:Inv X ae σ H s):∀b o,X.base.get? b=some o->s.heap.get? b=some o/\H b=none:=λb o e=>
 ⟨I.base.keep b o (I.ok.bs b o e).1 (I.ok.bs b o e).2 (I.ok.nofr e) (I.ok.noex b o e),I.base.free b o (I.ok.bs b o e).1 (I.ok.bs b o e).2 (I.ok.noex b o e)⟩
def Inv.bk (I:Inv X ae σ H s):∀b o,X.base.get? b=some o->s.heap.get? b=some o:=λb o e=>(I.bs b o e).1
def Inv.mod (I:Inv X ae σ H s):Mod X.K X.mg X.base:=I.ok.mod
def Inv.kIn (I:Inv X ae σ H s):X.K.In s.heap:=I.ok.mod.kin.keeps I.bk
def Inv.nolimit (I:Inv X ae σ H s):s.heap.NoLimit:=I.ok.mod.nolimit.keeps I.bk
def Inv.fr (I:Inv X ae σ H s):∃m,Fr X.base X.env.locals s.heap m :=
 let ⟨m,hn,_⟩:=I.loc
 ⟨m,hn,I.bk,vR I.ok.bsz I.ok.above⟩
def Inv.lt (I:Inv X ae σ H s):X.env.locals<s.heap.objs.size:=let ⟨_,hn,_⟩:=I.loc;hn.lt
def Inv.sz (I:Inv X ae σ H s):X.s₀.heap.objs.size<=s.heap.objs.size:=vR I.ok.above (le_of_lt I.lt)
def Inv.nofs (I:Inv X ae σ H s)(h:s.heap.objs.size<=a):a∉X.fs:=λhb=>by
 obtain⟨_,o,g,_⟩:=I.ok.funs.mem hb;exact absurd (vQ (vX g) (vR I.sz h)) (Nat.lt_irrefl _)
def Inv.cne (I:Inv X ae σ H s):∀x c,X.env.cells.lookup x=some c->c≠X.env.locals:=λx c e z=>by
 obtain⟨v,o,M,hd⟩:=I.cell x c e;obtain⟨m,⟨o',es,O,g,G,_⟩,_⟩:=I.loc;rw[z,g]at M;cases M;rw[G]at hd;cases hd
def Inv.funs (I:Inv X ae σ H s):s.heap.FunFrames X.base X.outer:=by
 have all:∀(l:List Env),(∀b∈D8 l,b∈X.fs)->X.s₀.heap.FunFrames X.base l->s.heap.FunFrames X.base l:=by
  intro l;induction l with
  |nil=>intro _ _;trivial
  |cons env r G=>
   intro hs hl;obtain⟨hk,⟨L,o,hf,hn,M,hd⟩,O⟩:=hl;have g:L∈X.fs:=hs L (by unfold D8;rw[List.filterMap_cons,hf];exact mX);obtain⟨sl,e⟩:=I.base.slot L o M (I.ok.frf L g) g λz=>I.ok.exfs L z g;exact⟨hk,⟨L,_,hf,hn,e,hd⟩,G (λb hb=>hs b (by unfold D8;rw[List.filterMap_cons,hf];exact mZ _ hb)) O⟩
 exact all X.outer (λ_ hb=>hb) I.ok.funs
def Inv.stack (I:Inv X ae σ H s):s.heap.FunFrames X.base X.stack:=by
 rcases I.ok.stk with e|⟨e,hf⟩
 ·rw[e];exact I.funs
 ·rw[e];obtain⟨m,hn,_⟩:=I.loc;refine .cons (by rw[I.ok.kind];decide) hf hn ?_ I.funs;exact Heap.get?_none_of_le (vR I.ok.bsz I.ok.above)
def Inv.stkSub (I:Inv X ae σ H s):∀b∈D8 X.stack,b∈X.env.locals::X.fs:=λb hb=>by
 rcases I.ok.stk with e|⟨e,hf⟩
 ·rw[e]at hb;exact mZ _ hb
 ·rw[e]at hb;unfold D8 at hb;rw[List.filterMap_cons,hf]at hb;exact hb
def Inv.stkFree (I:Inv X ae σ H s):∀b∈D8 X.stack,H b=none:=λb hb=>by
 rcases vP (I.stkSub b hb)with e|hb
 ·rw[e];exact I.free
 ·obtain⟨_,o,g,_⟩:=I.ok.funs.mem hb;exact I.base.free b o g (I.ok.frf b hb) λz=>I.ok.exfs b z hb
def Inv.step {g':Array GenState}{t':Nat}{d':Drawn}{ch:List Addr}(I:Inv X ae σ H s)
  (g:∀b∈ch,(b∈X.ex∨X.s₀.heap.objs.size<=b)/\b≠X.env.locals/\(∀x c,X.env.cells.lookup x=some c->c≠b)/\∀p∈X.pn++ae,p.1≠b)
  (keep:∀b o,b≠X.env.locals->b∉X.fs->b∉ch->s.heap.get? b=some o->H b=none->h'.get? b=some o)
  (slot:∀b o,b≠X.env.locals->b∈X.fs->b∉ch->s.heap.get? b=some o->H b=none->∃sl,h'.get? b=some { o with slots:=sl }) (free:∀b o,b∉ch->s.heap.get? b=some o->H b=none->H' b=none)
  (there:∀b o,b∉ch->s.heap.get? b=some o->∃o',h'.get? b=some o')
  (tups:∀b xs,H b=some (.tup xs)->H' b=some (.tup xs)) (frzs:∀b o u,H b=some (.frz o u)->H' b=some (.frz o u)) (tbls:∀b q,H b=some (.tbl q)->H' b=some (.tbl q))
  (ns:∀m,s.heap.Ns X.env.locals m->h'.Ns X.env.locals m) (hok:la X.prog X.w H' h') (hg:AllBare g'):
  Inv X ae σ H' { s with heap:=h',gens:=g',drawn:=d',toks:=t' }:=by
 have SO:∀b o,X.s₀.heap.get? b=some o->b≠X.env.locals:=λb o e=>vS (vQ (vX e) I.ok.above);have O:∀b o,X.s₀.heap.get? b=some o->b∉X.ex->b∉ch:=λb o e hx hb=>by
  rcases (g b hb).1 with z|z
  ·exact hx z
  ·exact absurd (vQ (vX e) z) (Nat.lt_irrefl _)
 have G:∀x c,X.env.cells.lookup x=some c->∀v,s.heap.IsCell c v->h'.IsCell c v:=λx c e v ⟨o,U,hd⟩=>by
  have M:c∉ch:=λz=>(g c z).2.2.1 x c e rfl;by_cases hc:c∈X.fs
  ·obtain⟨sl,q⟩:=slot c o (I.cne x c e) hc M U (I.freeC x c e);exact⟨_,q,hd⟩
  ·exact⟨o,keep c o (I.cne x c e) hc M U (I.freeC x c e),hd⟩
 refine⟨I.ok,I.os,hg,⟨λb o e n hb hx=>?_,λb o e n hb hx=>?_,λb o e n hx=>?_,λb o e hx=>?_,λb xs e=>tups b xs (I.base.tups b xs e),λb o xs e=>frzs b o xs (I.base.frzs b o xs e),λb ps e=>?_⟩,?_,λx c e=>?_,?_,λx c e=>?_,λp hp=>?_,hok,I.len⟩
 ·exact keep b o (SO b o e) hb (O b o e hx) (I.base.keep b o e n hb hx) (I.base.free b o e n hx)
 ·obtain⟨sl,T⟩:=I.base.slot b o e n hb hx;obtain⟨Vg,e2⟩:=slot b _ (SO b o e) hb (O b o e hx) T (I.base.free b o e n hx);exact⟨Vg,e2⟩
 ·obtain⟨o',T⟩:=I.base.there b o e hx;exact free b o' (O b o e hx) T (I.base.free b o e n hx)
 ·obtain⟨o',T⟩:=I.base.there b o e hx;exact there b o' (O b o e hx) T
 ·exact tbls b _ (I.base.tbls b ps e)
 ·obtain⟨m,hn,hl⟩:=I.loc;refine⟨m,ns m hn,λi x v T e2 e3=>?_⟩;obtain⟨u,r,l⟩:=hl i x v T e2 e3;refine⟨u,r,?_⟩;rcases l with l|⟨k,c,e,z⟩
  ·exact .inl l
  ·exact .inr ⟨k,c,e,G x c e _ z⟩
 ·obtain⟨v,z⟩:=I.cell x c e;exact⟨v,G x c e v z⟩
 ·obtain⟨m,⟨o,_,_,U,_⟩,_⟩:=I.loc;exact free _ o (λz=>(g _ z).2.1 rfl) U I.free
 ·obtain⟨v,o,U,hd⟩:=I.cell x c e;exact free c o (λz=>(g c z).2.2.1 x c e rfl) U (I.freeC x c e)
 ·obtain⟨e,n,ne,nf,d⟩:=I.pin p hp;have M:p.1∉ch:=λz=>(g p.1 z).2.2.2 p hp rfl;exact⟨keep p.1 p.2 ne nf M e n,free p.1 p.2 M e n,ne,nf,d⟩
def Inv.un {t':Nat}(I:Inv X ae σ H s)(u:Un X.fs [] H H' s.heap h')(hok:la X.prog X.w H' h'):Inv X ae σ H' { s with heap:=h',toks:=t' }:=by
 obtain⟨m,⟨o,es,ep,O,r⟩,_⟩:=id I.loc;obtain⟨sl,T⟩:=u.any O I.free (by simp);exact I.step (g':=s.gens) (d':=s.drawn) (ch:=[]) (λ_ z=>nomatch z) (λb o _ hb _ e n=>u.keep b o e n hb (by simp)) (λb o _ hb _ e n=>u.slot b o e n hb (by simp)) (λb o _ e n=>u.free b o e n (by simp)) (λb o _ e=>u.there b o e (by simp)) u.tups u.frzs u.tbls (λm' hm=>by
  obtain⟨o',G,M,g,U⟩:=hm;rw[O]at g;cases g;exact⟨_,G,M,T,U⟩) hok I.bare
def Inv.call {g':Array GenState}{t':Nat}{d':Drawn}{ch:List Addr}(I:Inv X ae σ H s)(u:Un (D8 X.stack) ch H H' s.heap h')(hok:la X.prog X.w H' h')(hg:AllBare g')
  (g:∀b∈ch,(b∈X.ex∨X.s₀.heap.objs.size<=b)/\b≠X.env.locals/\(∀x c,X.env.cells.lookup x=some c->c≠b)/\∀p∈X.pn++ae,p.1≠b):
  Inv X ae σ H' { s with heap:=h',gens:=g',drawn:=d',toks:=t' }:=by
 obtain⟨m,⟨o,es,ep,U,r⟩,_⟩:=id I.loc;obtain⟨sl,M⟩:=u.any U I.free λz=>(g _ z).2.1 rfl;exact I.step (ch:=ch) g (λb o M hb hc e n=>u.keep b o e n (λz=>(vP (I.stkSub b z)).elim M hb) hc) (λb o _ _ hc e n=>u.any e n hc) (λb o hc e n=>u.free b o e n hc) (λb o hc e=>u.there b o e hc) u.tups u.frzs u.tbls (λm' hm=>by
  obtain⟨o',O,T,G,r'⟩:=hm;rw[U]at G;cases G;exact⟨_,O,T,M,r'⟩) hok hg
def Inv.turned {t':Nat}{it:Addr}(I:Inv X ae σ H s)(k:∀b o,b≠it->s.heap.get? b=some o->h'.get? b=some o)(hn:H it=none)(G:it≠X.env.locals)
  (h1:it∈X.ex∨X.s₀.heap.objs.size<=it) (h2:∀x c,X.env.cells.lookup x=some c->c≠it) (h3:∀p∈X.pn++ae,p.1≠it):Inv X ae σ H { s with heap:=h',toks:=t' }:=by
 have g:∀b u,H b=some u->b≠it:=λb u e z=>by rw[z,hn]at e;cases e
 refine I.step (g':=s.gens) (d':=s.drawn) (ch:=[it]) (λb hb=>?_) (λb o _ _ hc e _=>k b o (λz=>hc (by simp[z])) e) (λb o _ _ hc e _=>⟨o.slots,k b o (λz=>hc (by simp[z])) e⟩) (λ_ _ _ _ n=>n)
  (λb o hc e=>⟨o,k b o (λz=>hc (by simp[z])) e⟩) (λ_ _ e=>e) (λ_ _ _ e=>e) (λ_ _ e=>e) (λm hm=>?_) (λb u e=>?_) I.bare
 ·have e:b=it:=by simpa using hb
  subst e;exact⟨h1,G,h2,h3⟩
 ·obtain⟨o,es,M,O,r⟩:=hm;exact⟨o,es,M,k _ o (Ne.symm G) O,r⟩
 ·refine(I.hok b u e).stay (λc v hc q=>k c v ?_ q) (λ_ q=>q) (λ_ _ q=>q) λ_ _ _ q=>q;rcases hc with z|z
  ·rw[z];exact g b u e
  ·exact g c _ z
def Inv.tok (I:Inv X ae σ H s)(t:Nat):Inv X ae σ H { s with toks:=t }:=I.un (h':=s.heap) (t':=t) Un.refl I.hok
def Inv.kept (I:Inv X ae σ H s)(k:∀b u,s.heap.get? b=some u->h'.get? b=some u):Inv X ae σ H { s with heap:=h',toks:=t' }:=I.un (Un.kept k) (I.hok.kept k)
def Inv.laid (I:Inv X ae σ H s)(k:∀b u,s.heap.get? b=some u->h'.get? b=some u)(hp:s.heap.objs.size<=a)(new:bO X.prog X.w (upd H a o) h' a o):
  Inv X ae σ (upd H a o) { s with heap:=h',toks:=t' }:=I.un (Un.laid k hp (I.hok.fresh hp)) (I.hok.laid k hp new)
def Inv.write (I:Inv X ae σ H s)(G:MP (H x))(he:e=x∨H e=some (.own x))(k:∀b u,b≠e->s.heap.get? b=some u->h'.get? b=some u)(g:∃u,h'.get? e=some u)
  (new:bO X.prog X.w (upd H x o) h' x o):Inv X ae σ (upd H x o) { s with heap:=h',toks:=t' }:=I.un (Un.write G he k g) (I.hok.write G he k g new)
def Inv.pins_of (I:Inv X ae σ H s)(h:∀p∈pins',s.heap.get? p.1=some p.2/\H p.1=none/\p.1≠X.env.locals/\p.1∉X.fs/\∀v,p.2.data≠.cell v):Inv X pins' σ H s :=
 ⟨I.ok,I.os,I.bare,I.base,I.loc,I.cell,I.free,I.freeC,λp hp=>(mem_append.mp hp).elim (λz=>I.pin p (mem_append_left _ z)) (h p),I.hok,I.len⟩
def wW {N:LS}(g:N.Nodup){i j:Nat}{x:Str}(a:N[i]? = some x)(b:N[j]? = some x):i=j:=by
 obtain⟨h1,G⟩:=vV a;obtain⟨h2,e2⟩:=vV b;exact(List.getElem_inj g).mp (G.trans e2.symm)
def sP {M:Model}{A:Around}{E:QV}{i:Nat}{x:Str}{v:V}{u:Value}{Q:Unit->Shared->Prop}(I:Inv X ae σ H s)(hN:X.N.Nodup)(hi:X.N[i]? = some x)(hx:DC X.env.scope x)(r:aU v u)
  (h:∀s',Inv X ae (σ.set i (some v)) H s'->(∃a,Heap.SameBut a s.heap s'.heap/\(a=X.env.locals∨X.env.cells.lookup x=some a))->Q () s') (hf:X.fn x=true∨X.env.scope.names.lookup x=some .local:=by first|exact .inl rfl|exact .inr rfl|assumption):wpAny M A (storeName X.env x u) Q E s:=by
 obtain⟨m,hn,hl⟩:=id I.loc;have QP:(X.env.scope.kind == .class || (X.env.scope.kind == .module && X.env.locals != X.env.globals))=false:=by rw[I.ok.kind];rfl
 have T:i<σ.length:=by rw[I.len];exact(vV hi).1
 have cne:=I.cne;have g:∀ {a:Addr}{h':Heap},(∃o,s.heap.get? a=some o/\H a=none)->Heap.SameBut a s.heap h'->la X.prog X.w H h':=λ{a h'} ha hs b ob e=>by
  obtain⟨_,_,O⟩:=ha;refine(I.hok b ob e).stay (λc w' hc q=>(hs.2 c ?_).trans q) (λ_ q=>q) (λ_ _ q=>q) λ_ _ _ q=>q;rintro rfl;rcases hc with rfl|hc
  ·rw[O]at e;cases e
  ·rw[O]at hc;cases hc
 rcases hx with hk|hk
 ·refine wpAny_storeName_local hk hn (λh' QQ hs=>?_) QP;obtain⟨oL,_,_,Vh,_⟩:=id hn;refine h _ ⟨I.ok,I.os,I.bare,⟨λb o e n hb hx=>?_,λb o e n hb hx=>?_,I.base.free,λb o e hx=>?_,I.base.tups,I.base.frzs,I.base.tbls⟩,⟨_,QQ,λj y v' G e2 e3=>?_⟩,λy c e=>?_,I.free,I.freeC,λp hp=>?_,g ⟨oL,Vh,I.free⟩ hs,by simpa using I.len⟩ ⟨_,hs,.inl rfl⟩
  ·exact(hs.2 b (vS (vQ (vX e) I.ok.above))).trans (I.base.keep b o e n hb hx)
  ·obtain⟨sl,G⟩:=I.base.slot b o e n hb hx;exact⟨sl,(hs.2 b (vS (vQ (vX e) I.ok.above))).trans G⟩
  ·obtain⟨o',G⟩:=I.base.there b o e hx;exact⟨o',(hs.2 b (vS (vQ (vX e) I.ok.above))).trans G⟩
  ·by_cases hj:j=i
   ·subst hj;rw[hi]at G;cases G;rw[getElem?_set_self T]at e2;cases e2
    exact⟨u,r,.inl ⟨hk,by simp⟩⟩
   ·rw[vB (Ne.symm hj)]at e2;obtain⟨u',r',q⟩:=hl j y v' G e2 e3;refine⟨u',r',?_⟩;rcases q with⟨k,e⟩|⟨k,c,e,z⟩
    ·refine .inl ⟨k,?_⟩;have:y≠x:=λe=>hj (wW hN G (e ▸ hi));simp[this,e]
    ·exact .inr ⟨k,c,e,z.sameBut hs (cne y c e)⟩
  ·obtain⟨w',z⟩:=I.cell y c e;exact⟨w',z.sameBut hs (cne y c e)⟩
  ·obtain⟨e,n,ne,nf,d⟩:=I.pin p hp;exact⟨(hs.2 p.1 ne).trans e,n,ne,nf,d⟩
 ·have U:X.fn x=true:=by
   rcases hf with z|z
   ·exact z
   ·rw[z]at hk;cases hk
  obtain⟨c,hc⟩:=I.ok.has x (.inl hk);obtain⟨w',z⟩:=I.cell x c hc;refine wpAny_storeName_cell I.ok.kind hk hc z (λh' O6 hs=>?_);obtain⟨oc,IZ,QR⟩:=id z;refine h { s with heap:=h' } ⟨I.ok,I.os,I.bare,⟨λb o e n hb hx=>?_,λb o e n hb hx=>?_,I.base.free,λb o e hx=>?_,I.base.tups,I.base.frzs,I.base.tbls⟩,⟨m,hn.sameBut hs (Ne.symm (cne x c hc)),λj y v' G e2 e3=>?_⟩,λy c' e=>?_,I.free,I.freeC,λp hp=>?_,g ⟨oc,IZ,I.freeC x c hc⟩ hs,by simpa using I.len⟩ ⟨c,hs,.inr hc⟩
  ·exact(hs.2 b (vS (vQ (vX e) (I.ok.cab x c U hc)))).trans (I.base.keep b o e n hb hx)
  ·obtain⟨sl,G⟩:=I.base.slot b o e n hb hx;exact⟨sl,(hs.2 b (vS (vQ (vX e) (I.ok.cab x c U hc)))).trans G⟩
  ·obtain⟨o',G⟩:=I.base.there b o e hx;exact⟨o',(hs.2 b (vS (vQ (vX e) (I.ok.cab x c U hc)))).trans G⟩
  ·by_cases hj:j=i
   ·subst hj;rw[hi]at G;cases G;rw[getElem?_set_self T]at e2;cases e2
    exact⟨u,r,.inr ⟨.inl hk,c,hc,O6⟩⟩
   ·rw[vB (Ne.symm hj)]at e2;obtain⟨u',r',q⟩:=hl j y v' G e2 e3;refine⟨u',r',?_⟩;rcases q with q|⟨k,c',e,z'⟩
    ·exact .inl q
    ·refine .inr ⟨k,c',e,z'.sameBut hs ?_⟩;rintro rfl;exact hj (wW hN G (I.ok.inj _ _ _ e hc ▸ hi))
  ·by_cases hcc:c'=c
   ·subst hcc;exact⟨_,O6⟩
   ·obtain⟨w2,z2⟩:=I.cell y c' e;exact⟨w2,z2.sameBut hs hcc⟩
  ·obtain⟨e,n,ne,nf,d⟩:=I.pin p hp;refine⟨(hs.2 p.1 ?_).trans e,n,ne,nf,d⟩;intro q;rw[q,IZ]at e;have q':oc=p.2:=vK e;exact d w' (by rw[←q'];exact QR)
def wZ {M:Model}{A:Around}{E:QV}{i:Nat}{x:Str}{v:V}{u:Value}{Q:Unit->Shared->Prop}(I:Inv X ae σ H s)(g:X.N.Nodup)(hi:X.N[i]? = some x)(hx:DC X.env.scope x)(r:aU v u)
  (h:∀s',Inv X ae (σ.set i (some v)) H s'->Q () s') (hf:X.fn x=true∨X.env.scope.names.lookup x=some .local:=by first|exact .inl rfl|exact .inr rfl|assumption):wpAny M A (storeName X.env x u) Q E s :=
 sP I g hi hx r (λs' G _=>h s' G) hf
def Inv.call' (I:Inv X ae σ H s)(G:s'.os=s.os)(u:Un (D8 X.stack) ch H H' s.heap s'.heap)(hok:la X.prog X.w H' s'.heap)(M:AllBare s'.gens)
  (g:∀b∈ch,(b∈X.ex∨X.s₀.heap.objs.size<=b)/\b≠X.env.locals/\(∀x c,X.env.cells.lookup x=some c->c≠b)/\∀p∈X.pn++ae,p.1≠b):Inv X ae σ H' s':=by
 obtain⟨h',g',d',t',o'⟩:=s';have e:o'=s.os:=G;subst e;exact I.call (g':=g') (t':=t') (d':=d') u hok M g
end
abbrev XK:=Value->Option Addr->Hp->Prop
abbrev St:=List (Option V)
abbrev VK:=V->Hp->Prop
abbrev TE:=St->Hp->VK->Prop
abbrev TT:=St->Hp->(Bool->Hp->Prop)->Prop
abbrev TA:=St->Hp->(List V->Hp->Prop)->Prop
structure Ends where
 nx:St->Hp->Prop
 rt:VK
 bk:St->Hp->Prop:=λ_ _=>False
 ct:St->Hp->Prop:=λ_ _=>False
abbrev TS:=Ends->St->Hp->Prop
def EP (X:Cx)(ae:AO)(σ:St)(Q:VK)(u:Value)(s':Shared):Prop:=∃v H',Inv X ae σ H' s'/\aU v u/\Q v H'
def TP (X:Cx)(ae:AO)(σ:St)(Q:Bool->Hp->Prop)(b:Bool)(s':Shared):Prop:=∃H',Inv X ae σ H' s'/\Q b H'
def AP (X:Cx)(ae:AO)(σ:St)(Q:List V->Hp->Prop)(us:LU)(s':Shared):Prop:=∃vs H',Inv X ae σ H' s'/\bc vs us/\Q vs H'
def SP (X:Cx)(ae:AO)(D:Ends)(f:Flow)(s':Shared):Prop :=
 match f with
 |.next=>∃g H',Inv X ae g H' s'/\D.nx g H'
 |.brk=>∃g H',Inv X ae g H' s'/\D.bk g H'
 |.cont=>∃g H',Inv X ae g H' s'/\D.ct g H'
 |.ret u=>∃v g H',Inv X ae g H' s'/\aU v u/\D.rt v H'
def PE (X:Cx)(e:Expr)(t:TE):Prop :=
 ∀(ae:AO)(s:Shared)(σ:St)(H:Hp)(Q:VK),Inv X ae σ H s->t σ H Q->wq X (eval e X.env) (EP X ae σ Q) X.xe s
def PT (X:Cx)(e:Expr)(t:TT):Prop :=
 ∀(ae:AO)(s:Shared)(σ:St)(H:Hp)(Q:Bool->Hp->Prop),Inv X ae σ H s->t σ H Q->wq X (isTrue e X.env (eval e X.env)) (TP X ae σ Q) X.xe s
def PW (X:Cx)(e:Expr)(t:TT):Prop :=
 ∀(g:Sem Value)(ae:AO)(s:Shared)(σ:St)(H:Hp)(Q:Bool->Hp->Prop),Inv X ae σ H s->t σ H Q->wq X (isTrue e X.env g) (TP X ae σ Q) X.xe s
def PW.pt (h:PW X e t):PT X e t:=h _
def PA (X:Cx)(es:QD)(t:TA):Prop :=
 ∀(g:Pos)(ae:AO)(s:Shared)(σ:St)(H:Hp)(Q:List V->Hp->Prop),Inv X ae σ H s->t σ H Q->wq X (spliced (backTo g (starEach es X.env))) (AP X ae σ Q) X.xe s
def PS (X:Cx)(st:Stmt)(t:TS):Prop :=
 ∀(ae:AO)(s:Shared)(σ:St)(H:Hp)(D:Ends),Inv X ae σ H s->t D σ H->wq X (exec st X.env) (SP X ae D) X.xe s
def u0 (X:Cx)(st:List Stmt)(t:TS):Prop :=
 ∀(ae:AO)(s:Shared)(σ:St)(H:Hp)(D:Ends),Inv X ae σ H s->t D σ H->wq X (execs st X.env) (SP X ae D) X.xe s
def c8 {α:Type}{t:Sem α}{Q g:α->Shared->Prop}{M:Model}{A:Around}{E:QV}{s:Shared}(h:wpAny M A t Q E s)(G:∀a s,Q a s->g a s):wpAny M A t g E s:=wpAny_mono h G λ_ _ x=>x
section
variable {X:Cx}
def mV (i:Nat):TE:=λσ H Q=>∃v,σ[i]? = some (some v)/\Q v H
def tC (v:V):TE:=λ_ H Q=>Q v H
def pA (M:X.N[i]? = some x)(hv:Ki X.env.scope x)(hd:(x == ("__debug__" : Str))=false:=by decide)(G:(x == ("__classdict__" : Str))=false:=by decide):PE X (.Name x pos) (mV i):=by
 intro ae s σ H Q I h;obtain⟨v,e,h⟩:=h;obtain⟨m,hn,hl⟩:=I.loc;obtain⟨u,r,l⟩:=hl i x v M e hv;have iC:EP X ae σ Q u s:=⟨v,H,I,r,h⟩;rcases l with⟨hk,hm⟩|⟨hk,c,hc,g⟩
 ·exact wpAny_Name (wpAny_loadName_local I.ok.kind hk hn hm iC) hd
 ·rcases hk with hk|hk
  ·exact wpAny_Name (wpAny_loadName_cell I.ok.kind hk hc g iC) hd
  ·exact wpAny_Name (wpAny_loadName_free I.ok.kind hk hc g iC G) hd
def Kj {i j pos}:PE X (.Constant (.int i) j pos) (tC (.int i)):=λ_ _ _ H _ I h=>wpAny_Constant_int ⟨.int i,H,I.tok _,⟨_,rfl⟩,h⟩
def MQ {b j pos}:PE X (.Constant (.bool b) j pos) (tC (.bl b)):=λ_ _ _ H _ I h=>Constant_bool ⟨.bl b,H,I,rfl,h⟩
def Kk {j pos}:PE X (.Constant .none j pos) (tC .non):=λ_ _ _ H _ I h=>Constant_none ⟨.non,H,I,rfl,h⟩
def Kl {x j pos}:PE X (.Constant (.str x) j pos) (tC (.str x)):=λ_ _ _ H _ I h=>Calls.Constant_str ⟨.str x,H,I.tok _,⟨_,rfl⟩,h⟩
def Gl (X:Cx)(x:Str):Prop:=X.env.kindOf x=some .globalImplicit
def u5 {E:QV}{ae:AO}{s:Shared}{σ:St}{H:Hp}{x:Str}{u:Value}{g:Pos}{Q:QV}(I:Inv X ae σ H s)(G:Gl X x)(hm:X.mg x=some u)(h:Q u s)
  (hd:(x == ("__debug__" : Str))=false:=by decide):wq X (eval (.Name x g) X.env) Q E s :=
 Calls.Name_function_global I.ok.kind G (Calls.loadGlobal_global (by rw[I.ok.glob];exact I.mod.glob.keeps I.bk) hm h) hd
def l7 {E:QV}{ae:AO}{s:Shared}{σ:St}{H:Hp}{x:Str}{u:Value}{g:Pos}{Q:QV}(I:Inv X ae σ H s)(G:Gl X x)(hm:X.mg x=none)(hv:bootBuiltins x=some u)(h:Q u s)
  (hn:x ≠ "__name__":=by decide) (hd:(x == ("__debug__" : Str))=false:=by decide):wq X (eval (.Name x g) X.env) Q E s:=by
 obtain⟨mb,h1,h2⟩:=I.mod.blt;exact Calls.Name_function_global I.ok.kind G (Calls.loadGlobal_builtin (by rw[I.ok.glob];exact I.mod.glob.keeps I.bk) hm (by rw[I.ok.blt];exact h1.keeps I.bk) ((h2 x hn).trans hv) h) hd
def A6 (g:Gl X x)(hm:X.mg x=some u)(r:aU v u)(hd:(x == ("__debug__" : Str))=false:=by decide):PE X (.Name x pos) (tC v) :=
 λ_ _ _ H _ I h=>u5 I g hm ⟨v,H,I,r,h⟩ hd
def G3 (g:Gl X x)(hm:X.mg x=none)(hv:bootBuiltins x=some u)(r:aU v u)(hn:x ≠ "__name__":=by decide)(hd:(x == ("__debug__" : Str))=false:=by decide):PE X (.Name x pos) (tC v) :=
 λ_ _ _ H _ I h=>l7 I g hm hv ⟨v,H,I,r,h⟩ hn hd
def Uo (g tb:TE)(k:Int->Int->Hp->Prop):St->Hp->Prop:=λσ H=>g σ H λx G=>tb σ G λy H2=>∃i j,x=.int i/\y=.int j/\k i j H2
variable {a b:Expr}{ta tb:TE}{pos:Pos}
def PC (X:Cx)(op:CmpOp)(a b:Expr)(t:TE):Prop :=
 ∀(ae:AO)(s:Shared)(σ:St)(H:Hp)(Q:VK),Inv X ae σ H s->t σ H Q ->
  wq X (eval a X.env) (λv g=>wq X (eval b X.env) (λu G=>wq X (compareOp op v u) (EP X ae σ Q) X.xe G) X.xe g) X.xe s
def jb (b:Expr){op:CmpOp}(h:op≠.In)(h2:op≠.NotIn):behindInMarks op b=false:=by
 have g:(op == CmpOp.In)=false:=by cases op<;>first|rfl|exact absurd rfl h
 have e2:(op == CmpOp.NotIn)=false:=by cases op<;>first|rfl|exact absurd rfl h2
 cases b<;>simp[behindInMarks,g,e2]
def Qd (p:Int->Int->Bool)(ta tb:TE):TE:=λσ H Q=>Uo ta tb (λi j H2=>Q (.bl (p i j)) H2) σ H
abbrev Km:TE->TE->TE:=Qd λi j=>decide (i<j)
def tB (t:TE):TT:=λσ H Q=>t σ H λx g=>∃c,x=.bl c/\Q c g
def Kn (h:PC X op a b t)(h1:behindInMarks op b=false:=by first|exact jb _ (by decide) (by decide)|rfl):PE X (.Compare a [op] [b] pos) t:=λae s σ H Q I hw=>wpAny_Compare1 (h ae s σ H Q I hw) h1
def Ko {op:CmpOp}{t:TE}(h:PC X op a b t)(h1:behindInMarks op b=false:=by first|exact jb _ (by decide) (by decide)|rfl):PT X (.Compare a [op] [b] pos) (tB t):=by
 intro ae s σ H Q I hw;refine wpAny_isTrue_Compare1 (c8 (h ae s σ H _ I hw) λv s1 h1=>c8 h1 λu s2 h2=>c8 h2 λc T ⟨x,g,G,M,O⟩=>?_) h1;obtain⟨d,rfl,q⟩:=O;cases M
 exact wpAny_truthy_bool ⟨g,G,q⟩
def Kp {e:Expr}{t:TE}(h:PE X e t)(he:∀g,isTrue e X.env g=(do let v ←g;standAt e.pos;holding [v] (truthy v)):=by intro _;rfl):PT X e (tB t):=by
 intro ae s σ H Q I hw;refine isTrue_plain (c8 (h ae s σ H _ I hw) λv s1 ⟨x,G,M,O,T⟩=>?_) (he _);obtain⟨d,rfl,q⟩:=T;cases O
 exact wpAny_truthy_bool ⟨G,M,q⟩
variable {tA PB:TT}{aA:QD}
def MT (t u:TT):TT:=λσ H Q=>t σ H λc g=>if c=true then u σ g Q else Q false g
def Sh (t u:TT):TT:=λσ H Q=>t σ H λc g=>if c=true then Q true g else u σ g Q
def MU (t:TT):TT:=λσ H Q=>t σ H λc g=>Q (!c) g
def G4 (ha:PT X a tA):PW X (.BoolOp .And [a] pos) tA:=by
 intro g ae s σ H Q I h;refine isTrue_and (c8 (ha ae s σ H Q I h) λc s1 e=>?_);cases c with
 |true=>exact isTrue_and_nil e
 |false=>exact e
def Kq (ha:PT X a tA):PW X (.BoolOp .Or [a] pos) tA:=by
 intro g ae s σ H Q I h;refine isTrue_or (c8 (ha ae s σ H Q I h) λc s1 e=>?_);cases c with
 |false=>exact isTrue_or_nil e
 |true=>exact e
def Kr (ha:PT X a tA)(hb:PW X (.BoolOp .And (b::aA) pos) PB):PW X (.BoolOp .And (a::b::aA) pos) (MT tA PB):=by
 intro O ae s σ H Q I h;refine isTrue_and (c8 (ha ae s σ H _ I h) λc s1 ⟨g,G,M⟩=>?_);cases c with
 |true=>exact hb O ae s1 σ g Q G M
 |false=>exact⟨g,G,M⟩
def MV (ha:PT X a tA)(hb:PW X (.BoolOp .Or (b::aA) pos) PB):PW X (.BoolOp .Or (a::b::aA) pos) (Sh tA PB):=by
 intro O ae s σ H Q I h;refine isTrue_or (c8 (ha ae s σ H _ I h) λc s1 ⟨g,G,M⟩=>?_);cases c with
 |true=>exact⟨g,G,M⟩
 |false=>exact hb O ae s1 σ g Q G M
def Ks (ha:PT X a tA):PT X (.UnaryOp .Not a pos) (MU tA):=by
 intro ae s σ H Q I h;exact isTrue_not (ha ae s σ H (λc g=>Q (!c) g) I h)
def MW (ta tb:TE):TE:=λσ H Q=>ta σ H λx g=>∃c,x=.bl c/\if c=true then tb σ g Q else Q (.bl false) g
def Qe (ta tb:TE):TE:=λσ H Q=>ta σ H λx g=>∃c,x=.bl c/\if c=true then Q (.bl true) g else tb σ g Q
def Kt {op}(h:PE X a t):PE X (.BoolOp op [a] pos) t:=λae s σ H Q I hw=>BoolOp_one (h ae s σ H Q I hw)
def Ku (ha:PE X a ta)(hb:PE X (.BoolOp .And (b::aA) pos) tb):PE X (.BoolOp .And (a::b::aA) pos) (MW ta tb):=by
 intro ae s σ H Q I h;refine BoolOp_and (c8 (ha ae s σ H _ I h) λv s1 ⟨x,G,M,O,g⟩=>?_);obtain⟨c,rfl,g⟩:=g;cases O
 refine wpAny_truthy_bool ?_;cases c with
 |true=>exact hb ae s1 σ G Q M g
 |false=>exact⟨.bl false,G,M,rfl,g⟩
def MX (ha:PE X a ta)(hb:PE X (.BoolOp .Or (b::aA) pos) tb):PE X (.BoolOp .Or (a::b::aA) pos) (Qe ta tb):=by
 intro ae s σ H Q I h;refine BoolOp_or (c8 (ha ae s σ H _ I h) λv s1 ⟨x,G,M,O,g⟩=>?_);obtain⟨c,rfl,g⟩:=g;cases O
 refine wpAny_truthy_bool ?_;cases c with
 |false=>exact hb ae s1 σ G Q M g
 |true=>exact⟨.bl true,G,M,rfl,g⟩
end
def gP (K:Frag)(H:Hp)(a:Addr)(xs:List V):Prop :=
 Rd H a (.lst xs) ∨
  ∃(o:Obj)(its:AV)(n:Nat),K.lookup a=some o/\o.cls=.type "list"/\o.dict=none/\o.data=.seq its n/\its.size<=sizeLine/\bc xs its.toList
def jc (K:Frag)(H:Hp)(a:Addr)(xs:List V):Prop :=
 Rd H a (.tup xs) ∨
  ∃(o:Obj)(its:AV)(n:Nat),K.lookup a=some o/\o.cls=.type "tuple"/\o.data=.seq its n/\its.size<=sizeLine/\bc xs its.toList
noncomputable def Qf:Value->Option V
 |.none=>some .non
 |.bool b=>some (.bl b)
 |.int i _=>some (.int i)
 |.str x _=>some (.str x)
 |.bytes b _=>some (.byt b)
 |.float b _=>some (.flt b)
 |.ref a=>some (.ref a)
 |.type n=>some (.ty n)
 |_=>none
def aU.abs (r:aU x u):Qf u=some x:=by
 cases x with
 |non=>cases r;rfl
 |bl _=>cases r;rfl
 |int _=>obtain⟨t,rfl⟩:=r;rfl
 |str _=>obtain⟨t,rfl⟩:=r;rfl
 |byt _=>obtain⟨t,rfl⟩:=r;rfl
 |flt _=>obtain⟨t,rfl⟩:=r;rfl
 |ref _=>cases r;rfl
 |ty _=>cases r;rfl
def aU.inj (r:aU x u)(q:aU y u):x=y:=vK (r.abs.symm.trans q.abs)
theorem bc.inj:∀ {xs ys:List V}{us:LU},bc xs us->bc ys us->xs=ys
 |_,_,_,.nil,.nil=>rfl
 |_,_,_,.cons r t,.cons g t'=>by rw[r.inj g,bc.inj t t']
section
variable {X:Cx}{ae:AO}{σ:St}{H:Hp}{s:Shared}{a:Addr}{xs ys:List V}
def gP.of {K:Frag}(h:H a=some (.lst xs)):gP K H a xs:=.inl (.inl h)
def jc.of {K:Frag}(h:H a=some (.tup xs)):jc K H a xs:=.inl (.inl h)
def Inv.list (I:Inv X ae σ H s)(h:gP X.K H a xs):∃its:LU,bc xs its/\PlainL s.heap a its.toArray/\xs.length<=sizeLine:=by
 rcases h with h|⟨o,its,n,hk,hc,hd,hs,hz,r⟩
 ·obtain⟨z,its,n,r,e⟩:=h.ok I.hok;exact⟨its,r,⟨_,n,e,rfl,rfl,rfl⟩,z⟩
 ·refine⟨its.toList,r,⟨o,n,I.kIn a o hk,hc,hd,by simpa using hs⟩,?_⟩;have e:=r.length;simp only[vG]at e;omega
def Inv.tuple (I:Inv X ae σ H s)(h:jc X.K H a xs):∃its:LU,bc xs its/\IsTup s.heap a its.toArray/\xs.length<=sizeLine:=by
 rcases h with h|⟨o,its,n,hk,hc,hs,hz,r⟩
 ·obtain⟨z,its,r,p⟩:=h.ok I.hok;exact⟨its,r,p,z⟩
 ·refine⟨its.toList,r,⟨o,I.kIn a o hk,hc,n,by simpa using hs⟩,?_⟩;have e:=r.length;simp only[vG]at e;omega
def Inv.list_inj (I:Inv X ae σ H s)(h:gP X.K H a xs)(h':gP X.K H a ys):xs=ys:=by
 obtain⟨its,r,⟨o,n,e,_,_,d⟩,_⟩:=I.list h;obtain⟨its',G,⟨o',M,g,_,_,d'⟩,_⟩:=I.list h';rw[e]at g;cases g;rw[d]at d';injection d' with d1 _;have:its=its':=by simpa using congrArg Array.toList d1
 subst this;exact r.inj G
def Inv.tuple_inj (I:Inv X ae σ H s)(h:jc X.K H a xs)(h':jc X.K H a ys):xs=ys:=by
 obtain⟨its,r,⟨o,e,_,n,d⟩,_⟩:=I.tuple h;obtain⟨its',G,⟨o',g,_,M,d'⟩,_⟩:=I.tuple h';rw[e]at g;cases g;rw[d]at d';injection d' with d1 _;have:its=its':=by simpa using congrArg Array.toList d1
 subst this;exact r.inj G
end
noncomputable abbrev Cx.wish (X:Cx)(E:QV):Cx:={ X with xe:=E }
noncomputable abbrev Cx.nox (X:Cx):Cx:=X.wish λ_ _=>False
def Cx.Ok.wish {X:Cx}(ok:X.Ok)(E:QV):(X.wish E).Ok :=
 ⟨ok.mod,ok.kind,ok.glob,ok.blt,ok.above,ok.inj,ok.has,ok.cab,ok.hd,ok.frames,ok.stk,ok.exf,ok.bs,ok.bsz,ok.noex,ok.exfs,ok.funs,ok.frf⟩
def Cx.Ok.unwish {X:Cx}{E:QV}(ok:(X.wish E).Ok):X.Ok :=
 ⟨ok.mod,ok.kind,ok.glob,ok.blt,ok.above,ok.inj,ok.has,ok.cab,ok.hd,ok.frames,ok.stk,ok.exf,ok.bs,ok.bsz,ok.noex,ok.exfs,ok.funs,ok.frf⟩
section
variable {X:Cx}{ae:AO}{σ:St}{H:Hp}{s:Shared}{E:QV}
def Inv.wish (I:Inv X ae σ H s)(E:QV):Inv (X.wish E) ae σ H s:=⟨I.ok.wish E,I.os,I.bare,I.base,I.loc,I.cell,I.free,I.freeC,I.pin,I.hok,I.len⟩
def Inv.unwish (I:Inv (X.wish E) ae σ H s):Inv X ae σ H s:=⟨I.ok.unwish,I.os,I.bare,I.base,I.loc,I.cell,I.free,I.freeC,I.pin,I.hok,I.len⟩
def SP.unwish (h:SP (X.wish E) ae D f s'):SP X ae D f s':=by
 cases f with
 |next=>obtain⟨g,H',I,q⟩:=h;exact⟨g,H',I.unwish,q⟩
 |brk=>obtain⟨g,H',I,q⟩:=h;exact⟨g,H',I.unwish,q⟩
 |cont=>obtain⟨g,H',I,q⟩:=h;exact⟨g,H',I.unwish,q⟩
 |ret u=>obtain⟨v,g,H',I,r,q⟩:=h;exact⟨v,g,H',I.unwish,r,q⟩
def PE.nox (h:PE X.nox e t):PE X e t:=λae s σ H Q I hw=>
 wpAny_mono (h ae s σ H Q (I.wish _) hw) (λ_ _ ⟨v,H',g,r,q⟩=>⟨v,H',g.unwish,r,q⟩) λ_ _ z=>False.elim z
def PT.nox (h:PT X.nox e t):PT X e t:=λae s σ H Q I hw=>
 wpAny_mono (h ae s σ H Q (I.wish _) hw) (λ_ _ ⟨H',g,q⟩=>⟨H',g.unwish,q⟩) λ_ _ z=>False.elim z
def u0.nox {st:List Stmt}{t:TS}(h:u0 X.nox st t):u0 X st t:=λae s σ H D I hw=>
 wpAny_mono (h ae s σ H D (I.wish _) hw) (λ_ _ q=>q.unwish) λ_ _ z=>False.elim z
end
section
variable {X:Cx}{st:Stmt}{aA:List Stmt}{t u:TS}{e:Expr}{te:TE}{pos:Pos}
def Jg:TS:=λD σ H=>D.nx σ H
def MY (t u:TS):TS:=λD σ H=>t { D with nx:=u D } σ H
def G5:u0 X [] Jg:=λ_ _ σ H _ I h=>wpAny_execs_nil ⟨σ,H,I,h⟩
def DD (h1:PS X st t)(h2:u0 X aA u):u0 X (st::aA) (MY t u):=by
 intro ae s σ H D I h;refine wpAny_execs_cons (c8 (h1 ae s σ H { D with nx:=u D } I h) λf s1 q=>?_);cases f with
 |next=>
  obtain⟨g,H',G,q⟩:=q;exact h2 ae s1 g H' D G q
 |ret v=>exact q
 |brk=>exact q
 |cont=>exact q
def G6 (h1:PS X st t):u0 X [st] t:=by
 intro ae s σ H D I h;refine wpAny_execs_cons (c8 (h1 ae s σ H D I h) λf s1 q=>?_);cases f with
 |next=>exact wpAny_execs_nil q
 |ret v=>exact q
 |brk=>exact q
 |cont=>exact q
def MZ:TS:=λD σ H=>D.ct σ H
def xa:PS X (.Continue pos) MZ:=λ_ _ σ H _ I h=>wpAny_Continue ⟨σ,H,I,h⟩
def Inv.quiet (I:Inv X ae σ H s):interactive X.env=false:=by simp[interactive,I.ok.kind]
def Na (te:TE):TS:=λD σ H=>te σ H λ_ g=>D.nx σ g
def u6 (he:PE X e te)(hs:swapsWith e none pos.line X.env=pure false:=by rfl):PS X (.Expr e pos) (Na te):=by
 intro ae s σ H D I h;exact wpAny_Expr_any (c8 (he ae s σ H _ I h) λv s1 ⟨x,g,G,O,M⟩=>⟨σ,g,G,M⟩) I.quiet hs
def Kv (te:TE):TS:=λD σ H=>te σ H D.rt
def DE (he:PE X e te):PS X (.Return (some e) pos) (Kv te):=by
 intro ae s σ H D I h;exact wpAny_Return_some (c8 (he ae s σ H _ I h) λv s1 ⟨x,g,G,M,O⟩=>⟨x,σ,g,G,M,O⟩)
def Nb (c:TT)(t u:TS):TS:=λD σ H=>c σ H λb g=>if b=true then t D σ g else u D σ g
def Nc {c:Expr}{a b:List Stmt}{g:TT}(hc:PT X c g)(ha:u0 X a t)(hb:u0 X b u):PS X (.If c a b pos) (Nb g t u):=by
 intro ae s σ H D I h;refine wpAny_If (c8 (hc ae s σ H _ I h) λd s1 ⟨G,M,O⟩=>?_);cases d with
 |true=>exact ha ae s1 σ G D M O
 |false=>exact hb ae s1 σ G D M O
end
abbrev TG:=V->St->Hp->(St->Hp->Prop)->Prop
abbrev Jh:=List V->St->Hp->(St->Hp->Prop)->Prop
def PG (X:Cx)(g:Expr)(t:TG):Prop :=
 ∀(ae:AO)(s:Shared)(σ:St)(H:Hp)(v:V)(u:Value)(Q:St->Hp->Prop),Inv X ae σ H s->aU v u->t v σ H Q ->
  wq X (assign g X.env u) (λ_ s'=>∃G H',Inv X ae G H' s'/\Q G H') X.xe s
def Nd (X:Cx)(G:QD)(t:Jh):Prop :=
 ∀(ae:AO)(s:Shared)(σ:St)(H:Hp)(vs:List V)(us:LU)(Q:St->Hp->Prop),Inv X ae σ H s->bc vs us->t vs σ H Q ->
  wq X (assignInOrder ((assignEach G X.env).map (·.2)) us) (λ_ s'=>∃g H',Inv X ae g H' s'/\Q g H') X.xe s
abbrev Kw:=V->V->V->Hp->(Hp->Prop)->Prop
def Nf (X:Cx)(t:Kw):Prop :=
 ∀(ae:AO)(s:Shared)(σ:St)(H:Hp)(o i v:V)(g iv u:Value)(Q:Hp->Prop),Inv X ae σ H s->aU o g->aU i iv->aU v u->t o i v H Q ->
  wq X (setItem g iv u) (λ_ s'=>∃H',Inv X ae σ H' s'/\Q H') X.xe s
section
variable {X:Cx}{pos:Pos}
def jd (i:Nat):TG:=λv σ H Q=>Q (σ.set i (some v)) H
def A7 (g:X.N.Nodup)(hi:X.N[i]? = some x)(hx:DC X.env.scope x)(hf:X.fn x=true∨X.env.scope.names.lookup x=some .local:=by first|exact .inl rfl|exact .inr rfl|assumption):PG X (.Name x pos) (jd i):=by
 intro ae s σ H v u Q I r h;exact wpAny_assign_Name (wZ I g hi hx r (λs' G=>⟨_,H,G,h⟩) hf)
def Ng:Jh:=λvs σ H Q=>vs=[]/\Q σ H
def Ji (t:TG)(u:Jh):Jh:=λvs σ H Q=>∃v r,vs=v::r/\t v σ H λg H'=>u r g H' Q
def oV:Nd X [] Ng:=by
 intro ae s σ H vs us Q I r h;obtain⟨e,h⟩:=h;subst e;cases r
 exact assignInOrder_nil ⟨σ,H,I,h⟩
def gn {e:Expr}{es:QD}{t:TG}{u:Jh}(h1:PG X e t)(h2:Nd X es u)
  (hs:(assignEach (e::es) X.env).map (·.2)=assign e X.env::(assignEach es X.env).map (·.2):=by rfl):Nd X (e::es) (Ji t u):=by
 intro ae s σ H vs us Q I r h;obtain⟨v,vr,G,h⟩:=h;subst G;cases r with
 |cons r M=>
  rw[hs];refine assignInOrder_cons (c8 (h1 ae s σ H _ _ _ I r h) λ_ s1 ⟨g,O,T,U⟩=>?_);exact h2 ae s1 g O _ _ Q T M U
def Kx (K:Frag)(n:Nat)(t:Jh):TG:=λv σ H Q=>∃a xs,v=.ref a/\jc K H a xs/\xs.length=n/\t xs σ H Q
def zv (hc:X.calm=true)(h:Nd X es t)
  (hn:(assignEach es X.env).length=n:=by rfl) (g:(assignEach es X.env).findIdx? (·.1)=none:=by rfl):PG X (.Tuple es k pos) (Kx X.K n t):=by
 intro ae s σ H v u Q I r hw;obtain⟨a,xs,M,hq,hl,hw⟩:=hw;subst M;cases r
 obtain⟨its,G,O,hz⟩:=I.tuple hq;refine assign_Tuple_tuple (I.ok.hd hc) O (by simp[hn,←hl,G.length]) g λh' hx=>?_;have T:Inv X ae σ H { s with heap:=h' }:=I.kept (t':=s.toks) λb o e=>hx b o (vS (vX e)) e;exact h ae _ σ H xs _ Q T (by simpa using G) hw
def Qg (to ti:TE)(t:Kw):TG:=λv σ H Q=>to σ H λo g=>ti σ g λi H2=>t o i v H2 λG=>Q σ G
def Ky {o i:Expr}{to ti:TE}{t:Kw}(G:PE X o to)(hi:PE X i ti)(hs:Nf X t)
  (ha:∀v,assign (.Subscript o i pos) X.env v=(do
   let g ←holding [v] (eval o X.env)
   let iv ←holding [v,g] (eval i X.env)
   standAt pos
   holding [v,g,iv] (setItem g iv v)
   release [v,g,iv] []):=by intro _;rfl):PG X (.Subscript o i pos) (Qg to ti t):=by
 intro ae s σ H v u Q I r h;rw[ha];refine wX (wpAny_holding (c8 (G ae s σ H _ I h) λg s1 ⟨x,M,O,T,U⟩=>?_));refine wX (wpAny_holding (c8 (hi ae s1 σ M _ O U) λiv s2 ⟨y,H2,I2,r2,q2⟩=>?_));refine wX (wpAny_standAt (wX (wpAny_holding (c8 (hs ae s2 σ H2 x y v g iv u _ I2 T r2 r q2) λ_ s3 ⟨H3,I3,q3⟩=>?_))));exact wpAny_release ⟨σ,H3,I3,q3⟩
def uA (G:TE)(g:TG):TS:=λD σ H=>G σ H λx M=>g x σ M D.nx
def DF {tg e:Expr}{G:TE}{g:TG}(he:PE X e G)(M:PG X tg g)(hs:swapsWithSole [tg] e pos.line X.env=pure false:=by rfl)(hw:swappedStores [tg] e X.env=pure none:=by rfl)
  (h1:(assignEach [tg] X.env).map (·.2)=[assign tg X.env]:=by rfl):PS X (.Assign [tg] e pos) (uA G g):=by
 intro ae s σ H D I h;refine wpAny_Assign_stores (c8 (he ae s σ H _ I h) λv s1 ⟨x,O,T,U,q1⟩=>?_) hs hw;rw[h1];exact c8 (M ae s1 σ O x v _ T U q1) λ_ s2 q=>q
def pB {i:Nat}{x:Str}{e:Expr}{G:TE}{g:Pos}(M:X.N.Nodup)(hi:X.N[i]? = some x)(hx:DC X.env.scope x)(he:PE X e G)(hs:swapsWith e (some (.Name x g)) pos.line X.env=pure false:=by rfl)(hf:X.fn x=true∨X.env.scope.names.lookup x=some .local:=by first|exact .inl rfl|exact .inr rfl|assumption):
  PS X (.Assign [.Name x g] e pos) (uA G (jd i)):=by
 intro ae s σ H D I h;refine wpAny_Assign_Name (c8 (he ae s σ H _ I h) λv s1 ⟨y,O,T,U,q1⟩=>?_) hs;exact wZ T M hi hx U (λs2 I2=>⟨_,O,I2,q1⟩) hf
end
structure It where
 go:Nat->Hp->Prop
 yld:Nat->Hp->V->Hp->Prop
 stop:Nat->Hp->Prop
def mW (X:Cx)(ae:AO)(H:Hp)(b:Addr):Prop :=
 H b=none/\b≠X.env.locals/\b∉X.fs/\(b∈X.ex∨X.s₀.heap.objs.size<=b)/\(∀x c,X.env.cells.lookup x=some c->c≠b)/\∀p∈X.pn++ae,p.1≠b
def Inv.fpOk (I:Inv X ae σ H s)(hb:s.heap.objs.size<=b)(hn:H' b=none):mW X ae H' b:=by
 refine⟨hn,ne_of_gt (vQ I.lt hb),I.nofs hb,.inr (vR I.sz hb),λx c e z=>?_,λp hp z=>?_⟩
 ·obtain⟨v,q⟩:=I.cell x c e;exact absurd (vQ q.lt (by rw[z];exact hb)) (Nat.lt_irrefl _)
 ·exact absurd (vQ (vX (I.pin p hp).1) (by rw[z];exact hb)) (Nat.lt_irrefl _)
structure Turn (P:Program)(w:World)(K:Frag)(tg:Expr)(J:It)(fp:List Addr)(it:Addr)(tn:Nat->Heap->Prop):Prop where
 mem:it∈fp
 obj:∀i h,tn i h->∀b∈fp,∃o,h.get? b=some o/\∀v,o.data≠.cell v
 keep:∀i h h',tn i h->(∀b∈fp,∀o,h.get? b=some o->h'.get? b=some o)->tn i h'
 item:∀(X:Cx),X.prog=P->X.w=w->X.K=K->X.calm=true->∀(i:Nat)(ae:List (Addr×Obj))(s:Shared)(σ:St)(H:Hp)(E:Value->Shared->Prop),Inv X ae σ H s->(∀b∈fp,mW X ae H b)->tn i s.heap->J.go i H ->
  wpAny (model P w) X.A (pyNext (.ref it)) (λr s1=>∃u,r=some u /\
   wpAny (model P w) X.A (letOwnedTupleGo tg (.ref it) u) (λ_ s2=>∃x H',Inv X ae σ H' s2/\aU x u/\J.yld i H x H'/\tn (i+1) s2.heap/\∀b∈fp,H' b=none) E s1) E s
 done:∀(X:Cx),X.prog=P->X.w=w->X.K=K->X.calm=true->∀(i:Nat)(ae:List (Addr×Obj))(s:Shared)(σ:St)(H:Hp)(E:Value->Shared->Prop),Inv X ae σ H s->(∀b∈fp,mW X ae H b)->tn i s.heap->J.stop i H ->
  wpAny (model P w) X.A (pyNext (.ref it)) (λr s1=>r=none/\Inv X ae σ H s1) E s
 self:∀(A:Around)(i:Nat)(s:Shared)(Q:Value->Shared->Prop)(E:Value->Shared->Prop),tn i s.heap->Q (.ref it) s->wpAny (model P w) A (pyIter (.ref it)) Q E s
abbrev TI:=St->Hp->(It->Hp->Prop)->Prop
def Si (X:Cx)(ae:AO)(σ:St)(tg:Expr)(R:It->Hp->Prop)(g:Value)(s2:Shared):Prop :=
 ∃(it:Addr)(fp:List Addr)(tn:Nat->Heap->Prop)(J:It)(H':Hp),g=.ref it/\Inv X ae σ H' s2/\Turn X.prog X.w X.K tg J fp it tn/\tn 0 s2.heap/\(∀b∈fp,mW X ae H' b)/\R J H'
def PI (X:Cx)(tg g:Expr)(G:TI):Prop :=
 ∀(ae:AO)(s:Shared)(σ:St)(H:Hp)(R:It->Hp->Prop),Inv X ae σ H s->G σ H R ->
  wq X (eval g X.env) (λv s1=>wq X (pyIter v) (Si X ae σ tg R) X.xe s1) X.xe s
def pC (G:s.heap.get? it=some o)(hc:o.cls=.type n)(hd:o.data=.fields vs)
    (hn:["enumerate","zip","dict_itemiterator","dict_reverseitemiterator","odict_iterator","itertools.zip_longest","itertools.pairwise"].contains n=false) (g:Q () s):wpAny M A (letOwnedTupleGo tg (.ref it) u) Q E s:=by
  unfold letOwnedTupleGo;cases tg<;>first
    |exact wY g
    | (cases u<;>first
        |exact wY g
        | (refine wX (wpAny_load G ?_)
           rw[hc,hd]
           show wpAny M A (if(["enumerate","zip","dict_itemiterator","dict_reverseitemiterator","odict_iterator","itertools.zip_longest","itertools.pairwise"].contains n && vs[0]? == some (rawInt _))=true then _ else _) Q E s
           rw[if_neg (by intro h;rw[hn,Bool.false_and]at h;cases h)]
           exact wY g))
noncomputable def Sj (K:Frag)(a:Addr):It :=
 ⟨λi H=>∃xs x,gP K H a xs/\xs[i]? = some x,λi H x H'=>H'=H/\∀xs,gP K H a xs->xs[i]? = some x,λi H=>∃xs,gP K H a xs/\xs.length<=i⟩
noncomputable def Sk (K:Frag)(a:Addr):It :=
 ⟨λi H=>∃xs x,jc K H a xs/\xs[i]? = some x,λi H x H'=>H'=H/\∀xs,jc K H a xs->xs[i]? = some x,λi H=>∃xs,jc K H a xs/\xs.length<=i⟩
noncomputable def Px (lo:Int)(n:Nat):It:=⟨λi _=>i<n,λi H x H'=>H'=H/\x=.int (lo+i),λi _=>n<=i⟩
def Cr {P:Program}{w:World}{K:Frag}{tg:Expr}(a it:Addr):Turn P w K tg (Sj K a) [it] it (λi h=>h.IsListIter it a i) where
 mem:=by simp
 obj:=λi h st b hb=>by
  have e:b=it:=by simpa using hb
  subst e;obtain⟨o,e,c,d⟩:=st;exact⟨o,e,λv z=>by rw[d]at z;cases z⟩
 keep:=λi h h' st k=>st.at λo e=>k it (by simp) o e
 item:=by
  intro X G hw M hc i ae s σ H E I hf st O;subst G hw M;obtain⟨xs,x,hq,hx⟩:=O;obtain⟨its,T,p,hz⟩:=I.list hq;obtain⟨u,hu,ru⟩:=T.get hx;obtain⟨f0,f1,f2,f3,f4,f5⟩:=hf it (by simp);refine wpAny_pyNext_list_item st p.isList (x:=u) (by simpa using hu) λh' g U=>?_;have I1:Inv X ae σ H { s with heap:=h' }:=I.turned (t':=s.toks) (λb o hb e=>(U.2 b hb).trans e) f0 f1 f3 f4 f5;obtain⟨o,e,c,d⟩:=id g;exact⟨u,rfl,pC (s:={ s with heap:=h' }) e c d (by decide) ⟨x,H,I1,ru,⟨rfl,λys hy=>by rw[I.list_inj hy hq];exact hx⟩,g,λb hb=>(hf b hb).1⟩⟩
 done:=by
  intro X G hw M hc i ae s σ H E I hf st O;subst G hw M;obtain⟨xs,hq,hx⟩:=O;obtain⟨its,T,p,hz⟩:=I.list hq;obtain⟨f0,f1,f2,f3,f4,f5⟩:=hf it (by simp);have hl:=T.length;exact wpAny_pyNext_list_end (I.ok.hd hc) st p.isList (by simp;omega) λh' eb=>⟨rfl,I.turned (t':=s.toks) (λb o hb e=>eb b o hb e) f0 f1 f3 f4 f5⟩
 self:=λ_ _ _ _ _ st h=>wpAny_pyIter_listiter st h
def zw {P:Program}{w:World}{K:Frag}{tg:Expr}(a it:Addr):Turn P w K tg (Sk K a) [it] it (λi h=>h.IsTupleIter it a i) where
 mem:=by simp
 obj:=λi h st b hb=>by
  have e:b=it:=by simpa using hb
  subst e;obtain⟨o,e,c,d⟩:=st;exact⟨o,e,λv z=>by rw[d]at z;cases z⟩
 keep:=λi h h' st k=>st.at λo e=>k it (by simp) o e
 item:=by
  intro X G hw M hc i ae s σ H E I hf st O;subst G hw M;obtain⟨xs,x,hq,hx⟩:=O;obtain⟨its,T,p,hz⟩:=I.tuple hq;obtain⟨u,hu,ru⟩:=T.get hx;obtain⟨f0,f1,f2,f3,f4,f5⟩:=hf it (by simp);refine wpAny_pyNext_tuple_item st (show s.heap.IsTuple a its.toArray from p) (x:=u) (by simpa using hu) λh' g U=>?_;have I1:Inv X ae σ H { s with heap:=h' }:=I.turned (t':=s.toks) (λb o hb e=>(U.2 b hb).trans e) f0 f1 f3 f4 f5;obtain⟨o,e,c,d⟩:=id g;exact⟨u,rfl,pC (s:={ s with heap:=h' }) e c d (by decide) ⟨x,H,I1,ru,⟨rfl,λys hy=>by rw[I.tuple_inj hy hq];exact hx⟩,g,λb hb=>(hf b hb).1⟩⟩
 done:=by
  intro X G hw M hc i ae s σ H E I hf st O;subst G hw M;obtain⟨xs,hq,hx⟩:=O;obtain⟨its,T,p,hz⟩:=I.tuple hq;obtain⟨f0,f1,f2,f3,f4,f5⟩:=hf it (by simp);have hl:=T.length;exact wpAny_pyNext_tuple_end (I.ok.hd hc) st (show s.heap.IsTuple a its.toArray from p) (by simp;omega) λh' eb=>⟨rfl,I.turned (t':=s.toks) (λb o hb e=>eb b o hb e) f0 f1 f3 f4 f5⟩
 self:=λ_ _ _ _ _ st h=>wpAny_pyIter_tupleiter st h
def zx {P:Program}{w:World}{K:Frag}{tg:Expr}(it:Addr)(lo:Int)(n:Nat):Turn P w K tg (Px lo n) [it] it (λi h=>IsRangeIter h it (lo+(i:Nat)*1) ((n:Int) - (i:Nat)) 1) where
 mem:=by simp
 obj:=λi h st b hb=>by
  have e:b=it:=by simpa using hb
  subst e;exact⟨_,st,λv z=>by
   have T:Data.fields _=Data.cell v:=z;cases T⟩
 keep:=λi h h' st k=>k it (by simp) _ st
 item:=by
  intro X G hw M hc i ae s σ H E I hf st O;subst G hw M;obtain⟨f0,f1,f2,f3,f4,f5⟩:=hf it (by simp);have W:=Walks.range (prog:=X.prog) (w:=X.w) (I.ok.hd hc) it lo 1 n;refine W.item i s _ _ O st λv h' tk hv g U=>?_;obtain⟨t,rfl⟩:=hv;have I1:Inv X ae σ H { s with heap:=h',toks:=tk }:=I.turned (λb o hb e=>U b o (by simpa using hb) e) f0 f1 f3 f4 f5;refine⟨_,rfl,pC (s:={ s with heap:=h',toks:=tk }) (n:="range_iterator") g rfl rfl (by decide) ⟨.int (lo+i),H,I1,⟨t,?_⟩,⟨rfl,rfl⟩,g,λb hb=>(hf b hb).1⟩⟩;rw[Int.mul_one]
 done:=by
  intro X G hw M hc i ae s σ H E I hf st O;subst G hw M;obtain⟨f0,f1,f2,f3,f4,f5⟩:=hf it (by simp);exact wpAny_pyNext_range_end (I.ok.hd hc) st (by have:n<=i:=O;omega) λh' eb=>⟨rfl,I.turned (t':=s.toks) (λb o hb e=>eb b o hb e) f0 f1 f3 f4 f5⟩
 self:=λ_ _ _ _ _ st h=>wpAny_pyIter_rangeiter st h
section
variable {X:Cx}{tg:Expr}
def Nh (K:Frag)(tl:TE):TI:=λσ H R=>tl σ H λx g=>∃a,x=.ref a/\(∃xs,gP K g a xs)/\R (Sj K a) g
def Qh (K:Frag)(tl:TE):TI:=λσ H R=>tl σ H λx g=>∃a,x=.ref a/\(∃xs,jc K g a xs)/\R (Sk K a) g
def G7 {l:Expr}{tl:TE}(hl:PE X l tl):PI X tg l (Nh X.K tl):=by
 intro ae s σ H R I h;refine c8 (hl ae s σ H _ I h) λv s1 ⟨x,G,g,M,O⟩=>?_;obtain⟨a,e,⟨xs,hq⟩,q⟩:=O;subst e;cases M
 obtain⟨its,T,p,hz⟩:=g.list hq;refine wpAny_pyIter_list p.isList ?_;refine⟨s1.heap.objs.size,[s1.heap.objs.size],_,_,G,rfl,g.kept (t':=s1.toks) λb o e=>vZ _ e,Cr a _,⟨_,vY _ rfl,rfl,rfl⟩,λb hb=>?_,q⟩;have e:b=s1.heap.objs.size:=by simpa using hb
 subst e;exact g.fpOk (vT _) (g.hok.fresh (vT _))
def Kz {l:Expr}{tl:TE}(hl:PE X l tl):PI X tg l (Qh X.K tl):=by
 intro ae s σ H R I h;refine c8 (hl ae s σ H _ I h) λv s1 ⟨x,G,g,M,O⟩=>?_;obtain⟨a,e,⟨xs,hq⟩,q⟩:=O;subst e;cases M
 obtain⟨its,T,p,hz⟩:=g.tuple hq;refine wpAny_pyIter_tuple (show s1.heap.IsTuple a its.toArray from p) ?_;refine⟨s1.heap.objs.size,[s1.heap.objs.size],_,_,G,rfl,g.kept (t':=s1.toks) λb o e=>vZ _ e,zw a _,⟨_,vY _ rfl,rfl,rfl⟩,λb hb=>?_,q⟩;have e:b=s1.heap.objs.size:=by simpa using hb
 subst e;exact g.fpOk (vT _) (g.hok.fresh (vT _))
def DG {ae:AO}{σ:St}{H:Hp}{s:Shared}{R:It->Hp->Prop}{E:QV}{lo hi:Int}{t u v:Tok}{tk:Nat}(I:Inv X ae σ H s)(h1 : -(2 ^ 62)<=lo)(h2:lo<2 ^ 62)(h3 : -(2 ^ 62)<=hi)(h4:hi<2 ^ 62)
  (q:R (Px lo (hi - lo).toNat) H):wq X (pyIter (.ref s.heap.objs.size)) (Si X ae σ tg R) E { s with heap:=s.heap.push { cls:=.type "range",data:=.fields #[.int lo t,.int hi u,.int 1 v] },toks:=tk }:=by
 refine wpAny_pyIter_range (IsRange.new ..) (small_one h1 h2 h3 h4) ?_;have g:Inv X ae σ H { s with heap:=s.heap.push { cls:=.type "range",data:=.fields #[.int lo t,.int hi u,.int 1 v] },toks:=tk }:=I.kept λb o e=>vZ _ e;refine⟨(s.heap.push { cls:=.type "range",data:=.fields #[.int lo t,.int hi u,.int 1 v] }).objs.size,[(s.heap.push { cls:=.type "range",data:=.fields #[.int lo t,.int hi u,.int 1 v] }).objs.size],_,_,H,rfl,
  g.kept (t':=tk) λb o e=>vZ _ e,zx _ lo (hi - lo).toNat,?_,λb hb=>?_,q⟩
 ·have G:lo+((0:Nat):Int)*1=lo:=by simp
  have e2:(((hi - lo).toNat:Nat):Int) - ((0:Nat):Int)=Builtin.Range.rangeSize lo hi 1:=by rw[rangeSize_one];split<;>omega
  show IsRangeIter _ _ (lo+((0:Nat):Int)*1) ((((hi - lo).toNat:Nat):Int) - ((0:Nat):Int)) 1;rw[G,e2];exact vY _ rfl
 ·have e:b=(s.heap.push { cls:=.type "range",data:=.fields #[.int lo t,.int hi u,.int 1 v] }).objs.size:=by simpa using hb
  subst e;exact g.fpOk (vT _) (g.hok.fresh (vT _))
def Ni (g:TA):TI:=λσ H R=>g σ H λvs G=>∃j:Int,vs=[.int j]/\-(2 ^ 62)<=j/\j<2 ^ 62/\R (Px 0 j.toNat) G
def Cs {a:Expr}{M:TA}{p g:Pos}(O:Gl X "range")(hm:X.mg "range" = none)(ha:PA X [a] M)(hs:starEach [a] X.env=[(false,eval a X.env)]:=by rfl):PI X tg (.Call (.Name "range" p) [a] [] g) (Ni M):=by
 intro ae s σ H R I h;refine Call_ (l7 I O hm boot_range (PyProof.Rows.callWith_type1 (c8 (ha g ae s σ H _ I h) λus s1 ⟨vs,H1,T,U,G⟩=>?_) hs rfl));obtain⟨j,e,G,q2,q⟩:=G;subst e;cases U with
 |cons r rr=>
  cases rr
  obtain⟨t,rfl⟩:=r;exact call_range_1 (DG T (by omega) (by omega) G q2 (by simpa using q))
def K1 (T:TI)(g:TG)(tb:TS):TS:=λD σ H=>T σ H λJ U=>∃W:Nat->Nat->St->Hp->Prop,(∃m,W 0 m σ U)/\∀i m σ H,W i m σ H ->
 (J.stop i H/\D.nx σ H)∨(J.go i H/\∃N:St->Hp->Prop,(∀G H',N G H'->∃O,O<m/\W (i+1) O G H')/\∀x H',J.yld i H x H'->g x σ H' λM H2=>tb { D with nx:=N,ct:=N,bk:=D.nx } M H2)
def nc (fp:List Addr)(h:Heap):AO:=fp.filterMap λb=>(h.get? b).map λo=>(b,o)
def j3 {fp:List Addr}{h:Heap}{b:Addr}{o:Obj}(hb:b∈fp)(e:h.get? b=some o):(b,o)∈nc fp h:=mem_filterMap.mpr ⟨b,hb,by rw[e];rfl⟩
def Ct (hp:p∈nc fp h):p.1∈fp/\h.get? p.1=some p.2:=by
 obtain⟨b,hb,e⟩:=mem_filterMap.mp hp;cases q:h.get? b with
 |none=>rw[q]at e;cases e
 |some o=>
  rw[q]at e;have g:(b,o)=p:=vK e;subst g;exact⟨hb,q⟩
def Inv.pinned (I:Inv X ae σ H s)(hf:∀b∈fp,mW X ae H b)(G:∀b∈fp,∃o,s.heap.get? b=some o/\∀v,o.data≠.cell v):Inv X (ae++nc fp s.heap) σ H s :=
 I.pins_of λp hp=>(mem_append.mp hp).elim (λz=>I.pin p (mY _ z)) λz=>by
  obtain⟨hb,e⟩:=Ct z;obtain⟨f0,f1,f2,_⟩:=hf p.1 hb;obtain⟨o,g,d⟩:=G p.1 hb;rw[e]at g;cases g;exact⟨e,f0,f1,f2,d⟩
def Inv.unpinned (I:Inv X (ae++pl) σ H s):Inv X ae σ H s:=I.pins_of λp hp=>I.pin p (mY _ (mem_append_left _ hp))
def DH {M:Expr}{body:List Stmt}{wi:TI}{g:TG}{tb:TS}{pos:Pos}(hp:PassesOwn (model X.prog X.w) X.A X.env X.xe)(hc:X.calm=true)(hi:PI X tg M wi)(hg:PG X tg g)(hb:u0 X body tb)
  (hs:∀x,foldedSetIterable M X.env x=pure x:=by intro _;rfl):PS X (.For tg M body [] pos) (K1 wi g tb):=by
 intro ae s σ H D I h;refine wpAny_For (c8 (hi ae s σ H _ I h) λv s1 h1=>c8 h1 λSQ s2 h2=>?_) hs;obtain⟨it,fp,tn,J,H2,e,I2,T,Ja,f2,W,⟨m0,w0⟩,QS⟩:=h2;subst e
 -- what stays true of the iterator's objects through the loop
 have O:∀ {H':Hp},(∀b∈fp,H' b=none)->∀b∈fp,mW X ae H' b:=λhn b hb=>⟨hn b hb,(f2 b hb).2⟩;refine codeAny_forLoop_any (λn s'=>∃i U H',Inv X ae U H' s'/\tn i s'.heap/\(∀b∈fp,H' b=none)/\W i n U H') ?_ m0 ⟨0,σ,H2,I2,Ja,λb hb=>(f2 b hb).1,w0⟩;rintro n s3 ⟨i,σ3,H3,I3,SR,SS,w3⟩;rcases QS i n σ3 H3 w3 with⟨stop,qn⟩|⟨go,N,hN,step⟩
 ·refine wpAny_passesOwn hp (c8 (T.done X rfl rfl rfl hc i ae s3 σ3 H3 X.xe I3 (O SS) SR stop) λr s4 ⟨hr,I4⟩=>?_);subst hr;exact wpAny_execs_nil ⟨σ3,H3,I4,qn⟩
 ·refine wpAny_passesOwn hp (c8 (T.item X rfl rfl rfl hc i ae s3 σ3 H3 X.xe I3 (O SS) SR go) λr s4 ⟨u,hr,h4⟩=>?_);subst hr;refine wpAny_passesOwn hp (c8 h4 λ_ s5 ⟨x,H5,I5,r5,y5,QT,QU⟩=>?_);have Vi:=I5.pinned (O QU) (T.obj _ _ QT);refine wpAny_passesOwn hp (c8 (hg _ s5 σ3 H5 x u _ Vi r5 (step x H5 y5)) λ_ s6 ⟨σ6,H6,I6,q6⟩=>?_);refine wpAny_passesOwn hp (c8 (hb _ s6 σ6 H6 _ I6 q6) λf s7 q7=>?_);have again:∀ {G:St}{H7:Hp},Inv X (ae++nc fp s5.heap) G H7 s7->N G H7->∃m,m<n/\∃i U H',Inv X ae U H' s7/\tn i s7.heap/\(∀b∈fp,H' b=none)/\W i m U H':=λ{G H7} I7 n7=>by
   obtain⟨m',hm,w7⟩:=hN G H7 n7;refine⟨m',hm,i+1,G,H7,I7.unpinned,T.keep _ _ _ QT λb hb o e=>(I7.pin (b,o) (mY _ (mY _ (j3 hb e)))).1,λb hb=>?_,w7⟩;obtain⟨o,e,d⟩:=T.obj _ _ QT b hb;exact(I7.pin (b,o) (mY _ (mY _ (j3 hb e)))).2.1
  cases f with
  |next=>obtain⟨G,H7,I7,n7⟩:=q7;exact again I7 n7
  |cont=>obtain⟨G,H7,I7,n7⟩:=q7;exact again I7 n7
  |brk=>obtain⟨G,H7,I7,q7⟩:=q7;exact⟨G,H7,I7.unpinned,q7⟩
  |ret v=>obtain⟨x7,G,H7,I7,r7,q7⟩:=q7;exact⟨x7,G,H7,I7.unpinned,r7,q7⟩
end
abbrev R2:=V->V->Hp->VK->Prop
def dE (X:Cx)(f:Value->Value->Sem Value)(r:R2):Prop :=
 ∀(ae:AO)(s:Shared)(σ:St)(H:Hp)(x y:V)(v u:Value)(Q:VK),Inv X ae σ H s->aU x v->aU y u->r x y H Q ->
  wq X (f v u) (EP X ae σ Q) X.xe s
def Nj (X:Cx)(f:Value->Sem Value)(r:V->Hp->VK->Prop):Prop :=
 ∀(ae:AO)(s:Shared)(σ:St)(H:Hp)(x:V)(v:Value)(Q:VK),Inv X ae σ H s->aU x v->r x H Q ->
  wq X (f v) (EP X ae σ Q) X.xe s
def bP (X:Cx)(f:Value)(r:List V->Hp->VK->Prop):Prop :=
 ∀(ae:AO)(s:Shared)(σ:St)(H:Hp)(xs:List V)(us:LU)(Q:VK),Inv X ae σ H s->bc xs us->r xs H Q ->
  wq X (call f us) (EP X ae σ Q) X.xe s
def Py (r:R2)(g tb:TE):TE:=λσ H Q=>g σ H λx G=>tb σ G λy H2=>r x y H2 Q
def Uq (r:V->Hp->VK->Prop)(g:TE):TE:=λσ H Q=>g σ H λx G=>r x G Q
def rI (C:Int->Int->Prop)(g:Int->Int->V):R2:=λx y H Q=>∃i j,x=.int i/\y=.int j/\C i j/\Q (g i j) H
def Gi (g:Int->Int->V):R2:=λx y H Q=>∃i j,x=.int i/\y=.int j/\Q (g i j) H
def rU (g:Int->V):V->Hp->VK->Prop:=λx H Q=>∃i,x=.int i/\Q (g i) H
section
variable {X:Cx}{a b c:Expr}{ta tb tc:TE}{pos:Pos}
def K2 (ha:PE X a ta)(hb:PE X b tb){ae:AO}{s:Shared}{σ:St}{H:Hp}{R:V->V->Hp->Prop}(I:Inv X ae σ H s)
  (h:ta σ H λx M=>tb σ M λy H2=>R x y H2) {Q:QV}{f:Value->Value->Sem Value}
  (hf:∀v u s2 x y H2,Inv X ae σ H2 s2->aU x v->aU y u->R x y H2->wq X (f v u) Q X.xe s2):
  wq X (eval a X.env) (λv g=>wq X (eval b X.env) (λu G=>wq X (f v u) Q X.xe G) X.xe g) X.xe s:=by
 refine c8 (ha ae s σ H _ I h) λv s1 ⟨x,M,O,T,U⟩=>?_;refine c8 (hb ae s1 σ M _ O U) λu s2 ⟨y,H2,I2,r2,q2⟩=>?_;exact hf v u s2 x y H2 I2 T r2 q2
def Jj {op:Operator}{r:R2}(g:dE X (binaryOp op) r)(ha:PE X a ta)(hb:PE X b tb):PE X (.BinOp a op b pos) (Py r ta tb):=by
 intro ae s σ H Q I h;exact wpAny_BinOp (K2 ha hb I h λv u s2 x y H2 G M O q=>g ae s2 σ H2 x y v u Q G M O q)
def Nk {op:UnaryOp}{r:V->Hp->VK->Prop}(g:Nj X (unaryOp op) r)(ha:PE X a ta):PE X (.UnaryOp op a pos) (Uq r ta):=by
 intro ae s σ H Q I h;exact UnaryOp_ (c8 (ha ae s σ H _ I h) λv s1 ⟨x,G,M,O,T⟩=>g ae s1 σ G x v Q M O T)
def Qi {f:Value->Value->Sem Value}{C:Int->Int->Prop}{g:Int->Int->Int}
  (rule:∀(i j:Int)(t u:Tok)(s:Shared)(Q:QV)(E:QV),C i j->Q (.int (g i j) s.toks) { s with toks:=s.toks+1 }->wq X (f (.int i t) (.int j u)) Q E s):
  dE X f (rI C λi j=>.int (g i j)):=by
 intro ae s σ H x y v u Q I G M h;obtain⟨i,j,rfl,rfl,hc,q⟩:=h;obtain⟨t,rfl⟩:=G;obtain⟨t',rfl⟩:=M;exact rule i j t t' s _ _ hc ⟨.int (g i j),H,I.tok _,⟨_,rfl⟩,q⟩
def K3 {f:Value->Value->Sem Value}{g:Int->Int->Int}
  (rule:∀(i j:Int)(t u:Tok)(s:Shared)(Q:QV)(E:QV),Q (.int (g i j) s.toks) { s with toks:=s.toks+1 }->wq X (f (.int i t) (.int j u)) Q E s):
  dE X f (Gi λi j=>.int (g i j)):=by
 intro ae s σ H x y v u Q I G M h;obtain⟨i,j,rfl,rfl,q⟩:=h;obtain⟨t,rfl⟩:=G;obtain⟨t',rfl⟩:=M;exact rule i j t t' s _ _ ⟨.int (g i j),H,I.tok _,⟨_,rfl⟩,q⟩
def G8 {f:Value->Value->Sem Value}{g:Int->Int->Bool}
  (rule:∀(i j:Int)(t u:Tok)(s:Shared)(Q:QV)(E:QV),Q (.bool (g i j)) s->wq X (f (.int i t) (.int j u)) Q E s):
  dE X f (Gi λi j=>.bl (g i j)):=by
 intro ae s σ H x y v u Q I G M h;obtain⟨i,j,rfl,rfl,q⟩:=h;obtain⟨t,rfl⟩:=G;obtain⟨t',rfl⟩:=M;exact rule i j t t' s _ _ ⟨.bl (g i j),H,I,rfl,q⟩
def Nl (i j:Int):Prop:=0<j/\j<1073741824
def G9 (i j:Int):Prop:=(-(2 ^ 64)<i/\i<2 ^ 64)∨(-(2 ^ 64)<j/\j<2 ^ 64)
def G9.ok (h:G9 i j):IntMulOk i j:=by
 rcases h with⟨h1,h2⟩|⟨h1,h2⟩
 ·exact .of_left (intBits_le_64 h1 h2)
 ·exact .of_right (intBits_le_64 h1 h2)
def K4:dE X (binaryOp .Add) (Gi λi j=>.int (i+j)):=K3 λ_ _ _ _ _ _ _ q=>add_int q
def K5:dE X (binaryOp .Sub) (Gi λi j=>.int (i - j)):=K3 λ_ _ _ _ _ _ _ q=>sub_int q
def K6:dE X (binaryOp .Mult) (rI G9 λi j=>.int (i*j)):=Qi λ_ _ _ _ _ _ _ hc q=>mul_int q hc.ok
def GA:dE X (binaryOp .FloorDiv) (rI Nl λi j=>.int (i / j)):=Qi λi j _ _ _ _ _ hc q=>by
 have h1:(0:Int)<j:=hc.1;have h2:j<1073741824:=hc.2;exact floordiv_int (by omega) (by rw[Int.fdiv_eq_ediv_of_nonneg i (by omega)];exact q) (.inl (PyProof.noPylong_small (by omega)))
def K7:dE X (binaryOp .Mod) (rI (λ_ j=>0<j) λi j=>.int (i % j)):=Qi λi j _ _ _ _ _ hc q=>by
 have h1:(0:Int)<j:=hc;exact mod_int' (by omega) (by rw[Int.fmod_eq_emod_of_nonneg i (by omega)];exact q)
def K8:dE X (binaryOp .BitAnd) (Gi λi j=>.int (Builtin.bitAnd i j)):=K3 λ_ _ _ _ _ _ _ q=>and_int q
def Ur {f:Value->Sem Value}{g:Int->Int}
  (rule:∀(i:Int)(t:Tok)(s:Shared)(Q:QV)(E:QV),Q (.int (g i) s.toks) { s with toks:=s.toks+1 }->wq X (f (.int i t)) Q E s):
  Nj X f (rU λi=>.int (g i)):=by
 intro ae s σ H x v Q I G h;obtain⟨i,rfl,q⟩:=h;obtain⟨t,rfl⟩:=G;exact rule i t s _ _ ⟨.int (g i),H,I.tok _,⟨_,rfl⟩,q⟩
def K9:Nj X (unaryOp .USub) (rU λi=>.int (-i)):=Ur λ_ _ _ _ _ q=>neg_int q
def Cu:dE X (binaryOp .Add) (λx y H Q=>∃i k,x=.int i/\y=.bl k/\Q (.int (i+b2i k)) H):=by
 intro ae s σ H x y v u Q I g G h;obtain⟨i,k,rfl,rfl,q⟩:=h;obtain⟨t,rfl⟩:=g;cases G
 exact add_int_bool ⟨.int (i+b2i k),H,I.tok _,⟨_,rfl⟩,q⟩
end
section
variable {X:Cx}{a b c:Expr}{ta tb tc:TE}{pos:Pos}
def Nm:dE X (compareOp .Lt) (Gi λi j=>.bl (decide (i<j))):=G8 λ_ _ _ _ _ _ _ q=>lt_int q
def Nn:dE X (compareOp .LtE) (Gi λi j=>.bl (decide (i<=j))):=G8 λ_ _ _ _ _ _ _ q=>le_int q
def No:dE X (compareOp .Gt) (Gi λi j=>.bl (decide (j<i))):=G8 λ_ _ _ _ _ _ _ q=>gt_int q
def Np:dE X (compareOp .GtE) (Gi λi j=>.bl (decide (j<=i))):=G8 λ_ _ _ _ _ _ _ q=>ge_int q
def dE.or (h:dE X f r)(h':dE X f r'):dE X f (λx y H Q=>r x y H Q∨r' x y H Q):=by
 intro ae s σ H x y v u Q I g G q;rcases q with q|q
 ·exact h ae s σ H x y v u Q I g G q
 ·exact h' ae s σ H x y v u Q I g G q
def GB (g:dE X (compareOp op) r)(ha:PE X a ta)(hb:PE X b tb)(hm:behindInMarks op b=false):PE X (.Compare a [op] [b] pos) (Py r ta tb):=by
 intro ae s σ H Q I h;exact wpAny_Compare1 (K2 ha hb I h λv u s2 x y H2 G M O q=>g ae s2 σ H2 x y v u Q G M O q) hm
def Nq (t:TE):TT:=λσ H Q=>t σ H λx H'=>∃k,x=.bl k/\Q k H'
def GC {op:CmpOp}{r:R2}(g:dE X (compareOp op) r)(ha:PE X a ta)(hb:PE X b tb)(hm:behindInMarks op b=false):PT X (.Compare a [op] [b] pos) (Nq (Py r ta tb)):=by
 intro ae s σ H Q I h;refine wpAny_isTrue_Compare1 (c8 (ha ae s σ H _ I h) λv s1 ⟨x,G,M,O,T⟩=>c8 (hb ae s1 σ G _ M T) λu s2 ⟨y,H2,U,r2,q2⟩=>
  c8 (g ae s2 σ H2 x y v u _ U O r2 q2) λc s3 ⟨z,H3,I3,r3,k,e,q3⟩=>?_) hm
 subst e;cases r3
 exact wpAny_truthy_bool ⟨H3,I3,q3⟩
def DI (r G:R2)(ta tb tc:TE):TE:=λσ H Q=>ta σ H λx M=>tb σ M λy H2=>r x y H2 λz g=>∃k,z=.bl k /\
 (if k=true then tc σ g λO T=>G y O T Q else Q (.bl false) g)
def DJ {op g:CmpOp}{r M:R2}(ho:dE X (compareOp op) r)(G:dE X (compareOp g) M)(ha:PE X a ta)(hb:PE X b tb)(hc:PE X c tc)
  (hm:lastMarks [op,g] [b,c]=false:=by with_unfolding_all rfl):PE X (.Compare a [op,g] [b,c] pos) (DI r M ta tb tc):=by
 intro ae s σ H Q I h;refine Compare_chain (c8 (ha ae s σ H _ I h) λv s1 ⟨x,H1,I1,r1,q1⟩=>chain_link (c8 (hb ae s1 σ H1 _ I1 q1) λu s2 ⟨y,H2,I2,O,q2⟩=>
  c8 (ho ae s2 σ H2 x y v u _ I2 r1 O q2) λd s3 ⟨z,T,U,r3,k,e,q3⟩=>?_)) hm
 subst e;cases r3
 refine wpAny_truthy_bool ?_;cases k with
 |false=>exact ite_ff ⟨.bl false,T,U,rfl,q3⟩
 |true=>exact ite_tt (chain_last (c8 (hc ae s3 σ T _ U q3) λw' s4 ⟨z',H4,I4,r4,q4⟩=>G ae s4 σ H4 y z' u w' Q I4 O r4 q4))
def ng:(sizeLine:Nat)<2 ^ 63:=by rw[sizeLine_eq];decide
def zy:dE X (binaryOp .Add) (λx y H Q=>∃i j,x=.str i/\y=.str j/\i.length+j.length<=sizeLine/\Q (.str (i++j)) H):=by
 intro ae s σ H x y v u Q I g G h;obtain⟨i,j,rfl,rfl,hz,q⟩:=h;obtain⟨t,rfl⟩:=g;obtain⟨t',rfl⟩:=G;exact add_str (λt' tk=>⟨.str (i++j),H,I.tok _,⟨_,rfl⟩,q⟩) hz
def gK (r:bc [x] us):∃u,us=[u]/\aU x u:=by
 cases r with
 |cons g G=>cases G;exact⟨_,rfl,g⟩
def A8 (r:bc [x,y] us):∃u g,us=[u,g]/\aU x u/\aU y g:=by
 cases r with
 |cons G M=>
  cases M with
  |cons O T=>cases T;exact⟨_,_,rfl,G,O⟩
def Cv (hc:X.calm=true):bP X (.builtin "max") (λxs H Q=>∃i j,xs=[.int i,.int j]/\Q (.int (if j > i then j else i)) H):=by
 intro ae s σ H xs us Q I r h;obtain⟨i,j,rfl,q⟩:=h;obtain⟨u,g,rfl,⟨t,rfl⟩,⟨t',rfl⟩⟩:=A8 r;refine max_two_ints (I.ok.hd hc) λh' tk k=>⟨_,H,I.kept k,?_,q⟩;by_cases hj:j > i
 ·rw[if_pos hj,if_pos hj];exact⟨_,rfl⟩
 ·rw[if_neg hj,if_neg hj];exact⟨_,rfl⟩
def Cw (hc:X.calm=true):bP X (.builtin "min") (λxs H Q=>∃i j,xs=[.int i,.int j]/\Q (.int (if j<i then j else i)) H):=by
 intro ae s σ H xs us Q I r h;obtain⟨i,j,rfl,q⟩:=h;obtain⟨u,g,rfl,⟨t,rfl⟩,⟨t',rfl⟩⟩:=A8 r;refine min_two_ints (I.ok.hd hc) λh' tk k=>⟨_,H,I.kept k,?_,q⟩;by_cases hj:j<i
 ·rw[if_pos hj,if_pos hj];exact⟨_,rfl⟩
 ·rw[if_neg hj,if_neg hj];exact⟨_,rfl⟩
def Cy:bP X (.type "int") (λxs H Q=>(∃i,xs=[.int i]/\Q (.int i) H)∨∃k,xs=[.bl k]/\Q (.int (if k then 1 else 0)) H):=by
 intro ae s σ H xs us Q I r h;rcases h with⟨i,rfl,q⟩|⟨k,rfl,q⟩
 ·obtain⟨u,rfl,t,rfl⟩:=gK r;exact call_int_int ⟨.int i,H,I,⟨_,rfl⟩,q⟩
 ·obtain⟨u,rfl,g⟩:=gK r;cases g
  exact call_int_bool ⟨.int (if k then 1 else 0),H,I.tok _,⟨_,rfl⟩,q⟩
end
structure Jb (h:Heap)(x dx C:Addr)(mA:Str->Option Value):Prop where
 obj:h.get? x=some (PySem.W.instObj C dx)
 ns:h.Ns1 dx mA
 ne:dx≠x
def Cz {h:Heap}{dx:Addr}{mA:SV}(n:h.Ns1 dx mA):∃od,h.get? dx=some od/\∀name,PySem.W.lookIn name od=some (mA name):=by
 obtain⟨o,es,O,G,hd,hk,_,hm⟩:=n;refine⟨o,G,λname=>?_⟩;have e:=hm name;unfold nsFind findBy at e;rw[←Array.find?_toList]at e;unfold PySem.W.lookIn;rw[hd];dsimp only;split
 ·rename_i y q;rw[q]at e;exact congrArg some e
 ·rename_i q;rw[q]at e;have a:es.toList.any (·.refKey)=false:=by
   rw[List.any_eq_false];intro y hy;obtain⟨z,t,g⟩:=hk y (Array.mem_toList_iff.mp hy);simp[DictEntry.refKey,g]
  have M:¬es.toList.any (·.refKey)=true:=by rw[a];exact uX
  rw[if_neg M];exact congrArg some e
def Jb.look (I:Jb h x dx C mA):∃od,PySem.W.InstAt h x (PySem.W.instObj C dx) C (some od)/\∀name,PySem.W.lookIn name od=some (mA name) :=
 let ⟨od,g,hl⟩:=Cz I.ns
 ⟨od,⟨I.obj,rfl,rfl,g⟩,hl⟩
section
variable {prog:Program}{w:World}{A:Around}{E:QV}{s:Shared}{K:Frag}{x dx C f:Addr}{mA:SV}{name:Str}{v:Value}
def DK (X:K.In s.heap)(I:Jb s.heap x dx C mA)(g:PySem.W.plainGet K C name=true)
  (hf:PySem.W.findIn K (.ref C) name=some (some (.ref f))) (G:PySem.W.isFn K (.ref f)=true) (hv:mA name=none) (h:Q (.ref f,[.ref x]) s):
  wpAny (model prog w) A (getMethod (.ref x) name pl) Q E s:=by
 obtain⟨od,J,hl⟩:=I.look;exact PySem.W.method_fn X J (PySem.W.plainGet_of g).1 (PySem.W.plainGet_of g).2 hf (beq_iff_eq.mp G) (by show(PySem.W.lookIn name od).map (·.isSome)=some false;rw[hl,hv];rfl) h
end
def kZ.some_of (r:kZ (some v) o):∃u,o=some u/\aU v u:=by
 cases o with
 |none=>exact(show False from r).elim
 |some u=>exact⟨u,rfl,r⟩
def kZ.none_of (r:kZ none o):o=none:=by
 cases o with
 |none=>rfl
 |some u=>exact(show False from r).elim
section
variable {P:Program}{w:World}{H H':Hp}{h h':Heap}{a C dx:Addr}{fs Vf:List (Str×V)}
def A9 (hok:la P w H h)(e:H a=some (.ins C dx fs)):∃mA,Jb h a dx C mA/\(∀f,kZ (fs.lookup f) (mA f))/\PySem.Within mA (fs.map (·.1))/\fs.length<=1000/\H dx=some (.own a):=by
 obtain⟨d,z,ne,ob,mA,n,r,q⟩:=(show bO P w H h a (.ins C dx fs)from hok a _ e);exact⟨mA,⟨ob,n,ne⟩,r,q,z,d⟩
end
structure Cls (K:Frag)(C:Addr):Prop where
 pg:PySem.W.plainGet K C Str.empty=true
 hd:PySem.W.hasDictIn K C=true
 po:PySem.W.plainOver K C=true
 sa:PySem.W.findIn K (.ref C) "__setattr__" = some (some (.builtin "object.__setattr__"))
def Cls.get {K:Frag}{C:Addr}(c:Cls K C)(f:Str):PySem.W.plainGet K C f=true:=c.pg
structure Meth (K:Frag)(C:Addr)(m:Str)(f:Addr):Prop where
 at_:PySem.W.findIn K (.ref C) m=some (some (.ref f))
 fn:PySem.W.isFn K (.ref f)=true
 kp:PySem.W.keepIn K (.ref f)=true
section
variable {X:Cx}{ae:AO}{σ:St}{H:Hp}{s:Shared}{a C dx:Addr}{fs:List (Str×V)}{f:Str}{v:V}{A:Around}{E:QV}
def z4 {m:Str}{g:Addr}{pl:Sem Bool}{Q:Value×LU->Shared->Prop}(I:Inv X ae σ H s)(e:H a=some (.ins C dx fs))(c:Cls X.K C)(k:Meth X.K C m g)(l:fs.lookup m=none)
  (h:Q (.ref g,[.ref a]) s):wpAny (model X.prog X.w) A (getMethod (.ref a) m pl) Q E s:=by
 obtain⟨mA,O,r,_,_,_⟩:=A9 I.hok e;have hn:mA m=none:=kZ.none_of (by rw[←l];exact r m);exact DK I.kIn O (c.get m) k.at_ k.fn hn h
def Inv.made (I:Inv X ae σ H s):Inv X ae σ (upd (upd H s.heap.objs.size (.own (s.heap.objs.size+1))) (s.heap.objs.size+1) (.ins C s.heap.objs.size []))
  { s with heap:=(s.heap.push PySem.W.emptyDict).push (PySem.W.instObj C s.heap.objs.size) }:=by
 have g:(s.heap.push PySem.W.emptyDict).get? s.heap.objs.size=some PySem.W.emptyDict:=vY s.heap rfl;have e2:((s.heap.push PySem.W.emptyDict).push (PySem.W.instObj C s.heap.objs.size)).get? (s.heap.objs.size+1)=some (PySem.W.instObj C s.heap.objs.size):=by
  have:=vY (s.heap.push PySem.W.emptyDict) (o:=PySem.W.instObj C s.heap.objs.size) rfl;rwa [Heap.size_push]at this
 have G:(s.heap.push PySem.W.emptyDict).Ns s.heap.objs.size (λ_=>none):=⟨PySem.W.emptyDict,#[],_,g,rfl,(λe he=>absurd he (by simp)),λ_=>rfl⟩;have M:=I.laid (a:=s.heap.objs.size) (o:=.own (s.heap.objs.size+1)) (h':=s.heap.push PySem.W.emptyDict) (t':=s.toks) (λb u q=>vZ _ q) (vT _) ⟨_,g⟩;refine M.laid (a:=s.heap.objs.size+1) (o:=.ins C s.heap.objs.size []) (t':=s.toks) (λb u q=>vZ _ q) (le_of_eq (Heap.size_push _ _)) ?_;have ne:s.heap.objs.size≠s.heap.objs.size+1:=vS (lt_succ_self _);refine⟨by rw[aJ ne,aC],uN _,ne,e2,λ_=>none,(Heap.Ns1.of_empty G).at λo q=>vZ _ q,λ_=>True.intro,λy hy=>absurd rfl hy⟩
end
section
variable {X:Cx}{o e value:Expr}{f:Str}{pos Ge Ml:Pos}{ta tv:TE}
end
section
variable {X:Cx}{ae:AO}{σ:St}{H:Hp}{s:Shared}{A:Around}{E:QV}{Q:QV}{c:Value}{b:Bool}
inductive TyOf (K:Frag)(H:Hp):V->Value->Prop where
 |non:TyOf K H .non (.type "NoneType")
 |bl (x:Bool):TyOf K H (.bl x) (.type "bool")
 |int (i:Int):TyOf K H (.int i) (.type "int")
 |str (x:Str):TyOf K H (.str x) (.type "str")
 |flt (x:UInt64):TyOf K H (.flt x) (.type "float")
 |lst {a:Addr}{xs:List V}(e:H a=some (.lst xs)):TyOf K H (.ref a) (.type "list")
 |frz {a:Addr}{o:Obj}{xs:List V}(e:H a=some (.frz o (.lst xs))):TyOf K H (.ref a) (.type "list")
 |tup {a:Addr}{xs:List V}(e:H a=some (.tup xs)):TyOf K H (.ref a) (.type "tuple")
 |dK {a:Addr}{aG:List (dD×V)}{ob:Obj}(e:H a=some (.dK aG ob)):TyOf K H (.ref a) (.type "dict")
 |dT {a:Addr}{aG:List (List dD×V)}(e:H a=some (.dT aG)):TyOf K H (.ref a) (.type "dict")
 |ins {a C dx:Addr}{fs:List (Str×V)}(e:H a=some (.ins C dx fs)) (cl:Cls K C) (ha:PySem.W.findIn K (.ref C) "__class__" = some (some (.builtin "object.__class__")))
   (hn:PySem.W.specialIn K (.builtin "object.__class__") "__get__" = some (some (.builtin "getset_descriptor.__get__"))) (SU:PySem.W.takesIn K (.builtin "object.__class__")=some true)
   (hm:PySem.W.mroIn K C (.type "object")=some true):TyOf K H (.ref a) (.ref C)
def gW (I:Inv X ae σ H s)(g:aU x u)(ty:TyOf X.K H x t)(e:PySem.W.kitOne X.K t c=some b)(h:∀tk,Q (.bool b) { s with toks:=tk }):
  wpAny (model X.prog X.w) A (call (.builtin "isinstance") [u,c]) Q E s:=by
 cases ty with
 |non=>cases (show u=Value.none from g);exact kia_one PySem.W.kitx_none I.kIn True.intro e (λz=>nomatch z) h
 |bl y=>cases (show u=Value.bool y from g);exact kia_one PySem.W.kitx_bool I.kIn True.intro e (λz=>nomatch z) h
 |int i=>obtain⟨t,q⟩:=(show ∃t,u=Value.int i t from g);cases q;exact kia_one PySem.W.kitx_int I.kIn True.intro e (λz=>nomatch z) h
 |str y=>obtain⟨t,q⟩:=(show ∃t,u=Value.str y t from g);cases q;exact kia_one PySem.W.kitx_str I.kIn True.intro e (λz=>nomatch z) h
 |flt y=>obtain⟨t,q⟩:=(show ∃t,u=Value.float y t from g);cases q;exact kia_one PySem.W.kitx_float I.kIn True.intro e (λz=>nomatch z) h
 |@lst a xs G=>
  cases (show u=Value.ref a from g)
  obtain⟨_,_,n,_,h1⟩:=(show bO X.prog X.w H s.heap a (.lst xs)from I.hok a _ G);exact kia_one PySem.W.kitx_list I.kIn ⟨_,h1,rfl⟩ e (λz=>nomatch z) h
 |@frz a ob xs G=>
  cases (show u=Value.ref a from g)
  obtain⟨_,_,_,n,_,h1⟩:=(show bO X.prog X.w H s.heap a (.frz ob (.lst xs))from I.hok a _ G);exact kia_one PySem.W.kitx_list I.kIn ⟨_,h1,rfl⟩ e (λz=>nomatch z) h
 |@tup a xs G=>
  cases (show u=Value.ref a from g)
  obtain⟨_,_,_,p⟩:=(show bO X.prog X.w H s.heap a (.tup xs)from I.hok a _ G);obtain⟨o,h1,h2,_⟩:=p;exact kia_one PySem.W.kitx_tuple I.kIn ⟨o,h1,h2⟩ e (λz=>nomatch z) h
 |@dK a aG ob G=>
  cases (show u=Value.ref a from g)
  obtain⟨_,_,_,vs,_,p⟩:=(show bO X.prog X.w H s.heap a (.dK aG ob)from I.hok a _ G);obtain⟨o,es,M,h1,h2,_⟩:=p;exact kia_one PySem.W.kitx_dict I.kIn ⟨o,h1,h2.1⟩ e (λz=>nomatch z) h
 |@dT a aG G=>
  cases (show u=Value.ref a from g)
  obtain⟨_,_,xs,_,o,es,M,h1,h2,_⟩:=(show bO X.prog X.w H s.heap a (.dT aG)from I.hok a _ G);exact kia_one PySem.W.kitx_dict I.kIn ⟨o,h1,h2.1⟩ e (λz=>nomatch z) h
 |@ins a C dx fs G cl ha hn SU hm=>
  cases (show u=Value.ref a from g)
  obtain⟨mA,O,_⟩:=A9 I.hok G;obtain⟨od,J,_⟩:=O.look;exact kia_one (PySem.W.kitx_own (cl.get _) cl.hd ha hn SU hm) I.kIn J e (λz=>nomatch z) h
end
structure eW (k:Nat)(A:Around):Prop where
 hd:A.handled=none
 dp:A.depth+3*k+5<recursionLimit
 un:A.units+16*k+200<cLine
def eW.mono (r:eW k A)(h:j<=k):eW j A:=⟨r.hd,by have:=r.dp;omega,by have:=r.un;omega⟩
def eW.deeper (r:eW (k+1) A)(env:Env):eW k (A.deeper env) :=
 ⟨r.hd,by have:=r.dp;show A.depth+1+3*k+5<_;omega,by have:=r.un;show A.units+3+16*k+200<_;omega⟩
def eW.in1 (r:eW (k+1) A):eW k A.in1 :=
 ⟨r.hd,by have:=r.dp;show A.depth+3*k+5<_;omega,by have:=r.un;show A.units+1+16*k+200<_;omega⟩
def eW.depth (r:eW k A):A.depth<recursionLimit:=by have:=r.dp;omega
def GD:TA:=λ_ H Q=>Q [] H
def xc (g:TE)(G:TA):TA:=λσ H Q=>g σ H λx M=>G σ M λxs H2=>Q (x::xs) H2
section
variable {X:Cx}{e:Expr}{es:QD}{te:TE}{t:TA}{pos:Pos}
def gE:PA X [] GD:=λ_ _ _ _ H Q I h=>Calls.spliced_nil ⟨[],H,I,.nil,h⟩
def ee (ha:PE X e te)(g:PA X es t)(hs:starEach (e::es) X.env=(false,eval e X.env)::starEach es X.env:=by rfl):PA X (e::es) (xc te t):=by
 intro pos ae s σ H Q I h;rw[hs];show wpAny _ _ (spliced ((false,eval e X.env)::backTo pos (starEach es X.env))) _ _ s;refine Calls.spliced_cons (c8 (ha ae s σ H _ I h) λu s1 ⟨x,G,M,O,T⟩=>?_);exact c8 (g pos ae s1 σ G _ M T) λus s2 ⟨xs,H2,U,r2,q2⟩=>⟨x::xs,H2,U,.cons O r2,q2⟩
def Nt (t:TA):TE:=λσ H Q=>t σ H λxs g=>xs.length<=sizeLine/\∀p,g p=none->Q (.ref p) (upd g p (.tup xs))
def Nu (t:TA):TE:=λσ H Q=>t σ H λxs g=>xs.length<=sizeLine/\∀p,g p=none->Q (.ref p) (upd g p (.lst xs))
def z5 {x1}(h:PA X es t):PE X (.Tuple es x1 pos) (Nt t):=by
 intro ae s σ H Q I hq;refine wpAny_Tuple_spliced (c8 (h pos ae s σ H _ I hq) λus s1 ⟨xs,g,G,r,z,q⟩=>⟨by rw[←r.length];exact z,?_⟩);have hf:g s1.heap.objs.size=none:=G.hok.fresh (vT _);refine⟨.ref s1.heap.objs.size,upd g s1.heap.objs.size (.tup xs),G.laid (t':=s1.toks) (λb u e=>vZ _ e) (vT _) ?_,rfl,q _ hf⟩;exact⟨z,us,r,⟨_,vY _ rfl,rfl,_,rfl⟩⟩
def DM (h:PA X es t):PE X (.List es pos) (Nu t):=by
 intro ae s σ H Q I hq;refine wpAny_List_spliced (c8 (h pos ae s σ H _ I hq) λus s1 ⟨xs,g,G,r,z,q⟩=>⟨by rw[←r.length];exact z,?_⟩);have hf:g s1.heap.objs.size=none:=G.hok.fresh (vT _);refine⟨.ref s1.heap.objs.size,upd g s1.heap.objs.size (.lst xs),G.laid (t':=s1.toks) (λb u e=>vZ _ e) (vT _) ?_,rfl,q _ hf⟩;exact⟨z,us,0,r,vY _ rfl⟩
end
abbrev Sp:=List V->Hp->VK->XK->Prop
abbrev Jl:=List Env->Hp->Shared->XK->QV
structure Env0 (P:Program)(w:World)(K:Frag)(mg:Str->Option Value)(base:Heap)(A:Around)(outer:List Env)(s:Shared)(H:Hp):Prop where
 frames:A.frames=some outer
 mod:Mod K mg base
 bs:∀b o,base.get? b=some o->s.heap.get? b=some o/\H b=none
 bsz:base.objs.size<=s.heap.objs.size
 funs:s.heap.FunFrames base outer
 frf:∀b∈D8 outer,H b=none
 hok:la P w H s.heap
 bare:AllBare s.gens
def CE (outer:List Env)(P:Program)(w:World)(H:Hp)(s:Shared)(Q:VK)(u:Value)(s':Shared):Prop :=
 ∃v H',s'.os=s.os/\AllBare s'.gens/\Un (D8 outer) [] H H' s.heap s'.heap/\la P w H' s'.heap/\aU v u/\Q v H'
def CR (CX:Jl)(outer:List Env)(P:Program)(w:World)(H:Hp)(s:Shared)(Q:VK)(E:XK)(r:Result)(s':Shared):Prop :=
 match r with
 |.ok (.ret u)=>CE outer P w H s Q u s'
 |.ok _=>False
 |.error e=>CX outer H s E e s'
structure sK (P:Program)(w:World)(K:Frag)(mg:Str->Option Value)(base:Heap)(CX:Jl)(k:Nat)(f:Addr)(fd:FuncData)(ps:List Str)(sp:Sp):Prop where
 len:∀vs H Q E,sp vs H Q E->vs.length=ps.length
 run:∀(A:Around)(outer:List Env)(s:Shared)(H:Hp)(args:Args)(us:List Value)(vs:List V)(Q:VK)(E:XK),eW k A->Env0 P w K mg base A outer s H->BindsTo s fd args (ps.zip us)->bc vs us->sp vs H Q E ->
  codeAny (model P w) A (.call (.ref f) args) (CR CX outer P w H s Q E) s
section
variable {X:Cx}{ae:AO}{σ:St}{H:Hp}{s s':Shared}
def Inv.env0 (I:Inv X ae σ H s):Env0 X.prog X.w X.K X.mg X.base X.A X.stack s H :=
 ⟨I.ok.frames,I.ok.mod,I.bs,vR I.ok.bsz I.sz,I.stack,I.stkFree,I.hok,I.bare⟩
def Inv.after (I:Inv X ae σ H s)(h:CE X.stack X.prog X.w H s Q u s'):EP X ae σ Q u s':=by
 obtain⟨v,H',os,bare,un,hok,r,q⟩:=h;obtain⟨hh,g,d,t,G⟩:=s';obtain rfl:G=s.os:=os;exact⟨v,H',I.call (h':=hh) (g':=g) (d':=d) (t':=t) (ch:=[]) un hok bare (λb z=>absurd z (by simp)),r,q⟩
end
def Nv (sp:Sp)(g:List V)(E:XK)(t:TA):TE:=λσ H Q=>t σ H λvs G=>sp (vs++g) G Q E
def sQ (K:Frag)(fd:FuncData)(ps:LS)(ds:LU):Prop :=
 ∀(s:Shared)(us:LU),K.In s.heap->(us++ds).length=ps.length->BindsTo s fd ⟨us,[]⟩ (ps.zip (us++ds))
def sQ.all {K:Frag}{fd:FuncData}{ps:LS}(h:∀us:LU,us.length=ps.length->bindArgs fd ⟨us,[]⟩=pure (ps.zip us)):sQ K fd ps []:=λs us _ hl=>by
 rw[uQ]at hl ⊢;exact .of_eq (h us hl)
def z6 (CX:Jl)(X:Cx)(E:XK):Prop:=∀(ae:AO)(σ:St)(H:Hp)(s:Shared)(e:Value)(s':Shared),Inv X ae σ H s->CX X.stack H s E e s'->X.xe e s'
section
variable {X:Cx}{CX:Jl}{k:Nat}{f C:Addr}{fd:FuncData}{ps:LS}{sp:Sp}{Mm:List V}{ds:LU}{E:XK}{x m:Str}{p pos cG:Pos}{e o:Expr}{es:QD}{ta:TE}{t:TA}
def KE {ae:AO}{σ:St}{H:Hp}{s:Shared}{Q:VK}{us:LU}{vs:List V}(F:sK X.prog X.w X.K X.mg X.base CX k f fd ps sp)(G:eW k X.A)(hb:sQ X.K fd ps ds)(hd:bc Mm ds)(hx:z6 CX X E)
  (I:Inv X ae σ H s) (r:bc vs us) (h:sp (vs++Mm) H Q E):wq X (call (.ref f) us) (EP X ae σ Q) X.xe s:=by
 have g:bc (vs++Mm) (us++ds):=r.append hd;have hl:(us++ds).length=ps.length:=by rw[←g.length];exact F.len _ _ _ _ h
 refine wpAny_call (codeAny_mono (F.run X.A X.stack s H ⟨us,[]⟩ (us++ds) (vs++Mm) Q E G I.env0 (hb s us I.kIn hl) g h) λr s' hq=>?_);cases r with
 |error e=>exact hx ae σ H s e s' I hq
 |ok fl=>
  cases fl with
  |ret u=>exact I.after hq
  |next=>exact False.elim hq
  |brk=>exact False.elim hq
  |cont=>exact False.elim hq
def GF (F:sK X.prog X.w X.K X.mg X.base CX k f fd ps sp)(O:eW k X.A)(T:Gl X x)(hm:X.mg x=some (.ref f))(hk:PySem.W.keepIn X.K (.ref f)=true)(hb:sQ X.K fd ps ds)(hd:bc Mm ds)(hx:z6 CX X E)
  (ha:PA X (e::es) t) (g:(x == ("__debug__" : Str))=false:=by decide) (he:starEach (e::es) X.env=(false,eval e X.env)::starEach es X.env:=by rfl) (G:(backTo pos (starEach es X.env)).any (·.1)=false:=by rfl):
  PE X (.Call (.Name x p) (e::es) [] pos) (Nv sp Mm E t):=by
 intro ae s σ H Q I h;refine wpAny_Call_Name_kw (u5 I T hm ?_ g);refine PySem.W.callWith_K (h₀:=X.base) I.ok.mod.kin hk (c8 (ha pos ae s σ H _ I h) λus s1 ⟨vs,U,M,r,q⟩=>⟨M.kIn,?_⟩) he G;exact KE F O hb hd hx M r q
end
structure FnScope (N P:List Str)(sc:Scope):Prop where
 kind:sc.kind=.function
 co:sc.isCoroutine=false
 gen:sc.isGenerator=false
 nd:N.Nodup
 pre:N.take P.length=P
 par:∀x∈P,sc.names.lookup x=some .local∨sc.names.lookup x=some .cell
 nofree:∀y∈sc.names,y.2≠.free
theorem sR {kindOf:Str->Option NameKind}{x:Str}:∀ {binds:List (Str×Value)}{m:SV},(∀v,(x,v)∉binds)->bindL kindOf binds m x=m x
 |[],_,_=>rfl
 | (n,v)::r,m,h=>by
  unfold bindL;rw[sR λw hw=>h w (mZ _ hw)];split
  ·have:x≠n:=by rintro rfl;exact h v mX
   simp[this]
  ·rfl
theorem sU {kindOf:Str->Option NameKind}{x:Str}:∀ {binds:List (Str×Value)}{m:SV},(∀v,(x,v)∉binds)->bindC kindOf binds m x=m x
 |[],_,_=>rfl
 | (n,v)::r,m,h=>by
  unfold bindC;rw[sU λw hw=>h w (mZ _ hw)];split
  ·rfl
  ·have:x≠n:=by rintro rfl;exact h v mX
   simp[this]
theorem sV {kindOf:Str->Option NameKind}{x:Str}{v:Value}:∀ {P:LS}{vs:LU}{i:Nat}{m:SV},P.Nodup->P[i]? = some x->vs[i]? = some v->kindOf x=some .local ->
  bindL kindOf (P.zip vs) m x=some v
 |[],_,_,_,_,h,_,_=>by simp at h
 |_::_,[],_,_,_,_,h,_=>by simp at h
 |p::P,w::vs,0,m,nd,h1,h2,hk=>by
  simp at h1 h2;subst h1;subst h2;show bindL kindOf ((p,w)::P.zip vs) m p=_;unfold bindL;rw[sR λv hv=>(nodup_cons.mp nd).1 (of_mem_zip hv).1,if_pos hk];simp
 |p::P,w::vs,i+1,m,nd,h1,h2,hk=>by
  show bindL kindOf ((p,w)::P.zip vs) m x=_;unfold bindL;exact sV (i:=i) (nodup_cons.mp nd).2 (by simpa using h1) (by simpa using h2) hk
theorem sW {kindOf:Str->Option NameKind}{x:Str}{v:Value}:∀ {P:LS}{vs:LU}{i:Nat}{m:SV},P.Nodup->P[i]? = some x->vs[i]? = some v->kindOf x≠some .local ->
  bindC kindOf (P.zip vs) m x=some v
 |[],_,_,_,_,h,_,_=>by simp at h
 |_::_,[],_,_,_,_,h,_=>by simp at h
 |p::P,w::vs,0,m,nd,h1,h2,hk=>by
  simp at h1 h2;subst h1;subst h2;show bindC kindOf ((p,w)::P.zip vs) m p=_;unfold bindC;rw[sU λv hv=>(nodup_cons.mp nd).1 (of_mem_zip hv).1,if_neg hk];simp
 |p::P,w::vs,i+1,m,nd,h1,h2,hk=>by
  show bindC kindOf ((p,w)::P.zip vs) m x=_;unfold bindC;exact sW (i:=i) (nodup_cons.mp nd).2 (by simpa using h1) (by simpa using h2) hk
noncomputable def jL (N:LS)(vs:List V):St:=vs.map some++List.replicate (N.length - vs.length) none
noncomputable def oK (CX:Jl)(P:Program)(w:World)(K:Frag)(mg:SV)(base:Heap)(N:LS)(qual:Str)(scope:Scope)(f:Addr)(cd:Value)(A:Around)(outer:List Env)(s:Shared)(H:Hp)(E:XK):Cx where
 prog:=P
 w:=w
 K:=K
 mg:=mg
 base:=base
 A:=A.deeper (envOfC qual scope s.heap.objs.size f cd)
 N:=N
 s₀:=s
 H₀:=H
 env:=envOfC qual scope s.heap.objs.size f cd
 outer:=outer
 stack:=envOfC qual scope s.heap.objs.size f cd::outer
 ex:=[]
 calm:=true
 fn:=λ_=>true
 pn:=[]
 xe:=λe s'=>wpAny (model P w) (A.deeper (envOfC qual scope s.heap.objs.size f cd)) (leaving (envOfC qual scope s.heap.objs.size f cd) e) (λ_ g=>CX outer H s E e g) (λG g=>CX outer H s E G g) s'
def xf {sc:Scope}{n:Nat}{x:Str}(h:sc.names.lookup x=some .cell):∃c,(cellsFrom n sc.names []).lookup x=some c:=by
 have q:=PySem.W.cellsFrom_some sc.names n [] (.inl h);exact uU q
def C0 {CX:Jl}{P:Program}{w:World}{K:Frag}{mg:SV}{base:Heap}{N ps:LS}{qual:Str}{scope:Scope}{f:Addr}{cd:Value}{A:Around}{outer:List Env}{s s1:Shared}{H:Hp}{E:XK}{us:LU}{vs:List V}
  (S:FnScope N ps scope) (hd:A.handled=none) (g:Env0 P w K mg base A outer s H) (hl:vs.length=ps.length) (r:bc vs us)
  (x:InCallC s s.heap.objs.size (bindL (envOfC qual scope s.heap.objs.size f cd).kindOf (ps.zip us) λ_=>none) (cellsFrom (s.heap.objs.size+1) scope.names []) (bindC (envOfC qual scope s.heap.objs.size f cd).kindOf (ps.zip us) λ_=>none) s1):
  Inv (oK CX P w K mg base N qual scope f cd A outer s H E) [] (jL N vs) H s1:=by
 have O:ps.length<=N.length:=by have:=congrArg List.length S.pre;rw[length_take]at this;omega
 obtain⟨h1,tk,rfl,hk⟩:=x.done;have G:∀b:Addr,b∉(oK CX P w K mg base N qual scope f cd A outer s H E).ex:=λb z=>absurd (show b∈([]:List Addr)from z) (by simp);refine⟨⟨g.mod,S.kind,rfl,rfl,vT _,λy z c h1 h2=>?_,λy hy=>?_,λy c _ h=>?_,λ_=>hd,Around.frames_deeper g.frames,.inr ⟨rfl,rfl⟩,λb z=>absurd z (G b),g.bs,g.bsz,λb _ _=>G b,λb z=>absurd z (G b),g.funs,g.frf⟩,
  rfl,g.bare,Un.kept hk,⟨_,x.toInCall.ns,λi y v h1 h2 h3=>?_⟩,λy c h=>⟨_,x.cell y c h⟩,g.hok.fresh (vT _),λy c h=>?_,λp hp=>absurd (show p∈([]:AO)from hp) (by simp),g.hok.kept hk,?_⟩
 ·exact name_of_addr x.apart (PySem.mem_of_lookup h1) (PySem.mem_of_lookup h2)
 ·have hy:scope.names.lookup y=some .cell∨scope.names.lookup y=some .free:=hy;rcases hy with hy|hy
  ·exact xf hy
  ·exact absurd rfl (S.nofree _ (PySem.mem_of_lookup hy))
 ·exact le_of_lt (x.above y c (PySem.mem_of_lookup h))
 ·have hi:i<vs.length:=by
   unfold jL at h2;by_cases hi:i<vs.length
   ·exact hi
   ·rw[List.getElem?_append_right (by simpa using hi)]at h2;rw[getElem?_replicate]at h2;split at h2<;>cases h2
  have ha:vs[i]? = some v:=by
   unfold jL at h2;rw[getElem?_append_left (by simpa using hi),vA]at h2;cases e:vs[i]? with
   |none=>rw[e]at h2;cases h2
   |some a=>rw[e]at h2;cases h2;rfl
  obtain⟨u,hu,T⟩:=r.get ha;have hp:ps[i]? = some y:=by
   rw[←S.pre,List.getElem?_take_of_lt (by omega)];exact h1
  have M:ps.Nodup:=by rw[←S.pre];exact S.nd.sublist (take_sublist _ _)
  refine⟨u,T,?_⟩;rcases S.par y (vL hp)with k|k
  ·exact .inl ⟨k,sV M hp hu k⟩
  ·obtain⟨c,e⟩:=xf (n:=s.heap.objs.size+1) k;refine .inr ⟨.inl k,c,e,?_⟩;have q:=x.cell y c e;rw[sW M hp hu (by show scope.names.lookup y≠_;rw[k];decide)]at q;exact q
 ·exact g.hok.fresh (le_of_lt (x.above y c (PySem.mem_of_lookup h)))
 ·unfold jL;show _=N.length;rw[uZ,vI,length_replicate];omega
def Jm {CX:Jl}{P:Program}{w:World}{K:Frag}{mg:SV}{base:Heap}{k:Nat}{f:Addr}{name qual:Str}{params:Arguments}{g:List Stmt}{scope:Scope}{dV kV doc pm eN ct oc:Value}{an od:Option Addr}
  {oJ:Array (Option Value)}{N ps:LS}{sp:Sp}(lk:K.lookup f=some ⟨oc,od,.func (fnOf name qual params g scope dV kV doc pm an eN ct),oJ⟩) (Mn:PySem.W.codeIn K eN qual=true) (S:FnScope N ps scope)
  (len:∀vs H Q E,sp vs H Q E->vs.length=ps.length)
  (M:∀(A:Around)(outer:List Env)(s:Shared)(H:Hp)(vs:List V)(Q:VK)(E:XK),eW k (A.deeper (envOfC qual scope s.heap.objs.size f eN))->sp vs H Q E ->
   ∃t,u0 (oK CX P w K mg base N qual scope f eN A outer s H E) g t/\t { nx:=λ_ H'=>Q .non H',rt:=Q } (jL N vs) H):
  sK P w K mg base CX (k+1) f (fnOf name qual params g scope dV kV doc pm an eN ct) ps sp:=by
 refine⟨len,λA outer s H args us vs Q E hr T hb r U=>?_⟩;have hl:=len _ _ _ _ U;have KX:K.In s.heap:=T.mod.kin.keeps λb o e=>(T.bs b o e).1;have Vk:s.heap.NoLimit:=T.mod.nolimit.keeps λb o e=>(T.bs b o e).1;have O:∀y∈ps.zip us,scope.names.lookup y.1=some .local∨(scope.names.lookup y.1=some .cell/\((cellsFrom (s.heap.objs.size+1) scope.names []).lookup y.1).isSome=true):=λ⟨n,v⟩ hy=>by
  rcases S.par n (of_mem_zip hy).1 with q|q
  ·exact .inl q
  ·exact .inr ⟨q,PySem.W.cellsFrom_some _ _ _ (.inl q)⟩
 refine codeAny_call_function hr.depth (KX _ _ lk) rfl S.co S.gen rfl (PySem.W.codeRec_of KX Mn) (hb _ _ _ _ ?_);refine wpAny_newFunctionEnv_cells S.kind O λenv he s1 x=>?_;subst he;refine⟨Vk.keeps x.toInCall.keep,codeAny_func ?_⟩;obtain⟨t,ht,hq⟩:=M A outer s H vs Q E (hr.deeper _) U;have I:Inv (oK CX P w K mg base N qual scope f eN A outer s H E) [] (jL N vs) H s1:=C0 S hr.hd T hl r x;refine wpAny_mono (ht [] s1 (jL N vs) H _ I hq) (λfl s' hs=>?_) λe s' hs=>hs;have iC:∀ {G:St}{H':Hp}{v:V}{u:Value},Inv (oK CX P w K mg base N qual scope f eN A outer s H E) [] G H' s'->aU v u->Q v H'->CE outer P w H s Q u s' :=
  λ{G H' v u} J rv q=>⟨v,H',J.os,J.bare,J.base,J.hok,rv,q⟩
 cases fl with
 |ret u=>
  obtain⟨v,G,H',J,rv,q⟩:=hs;exact iC J rv q
 |next=>
  obtain⟨G,H',J,q⟩:=hs;exact iC (v:=V.non) (u:=Value.none) J rfl q
 |brk=>
  obtain⟨_,_,_,q⟩:=hs;exact False.elim q
 |cont=>
  obtain⟨_,_,_,q⟩:=hs;exact False.elim q
section
variable {X:Cx}{x:Str}{p pos:Pos}{e:Expr}{es:QD}{t:TA}{id T:String}{r:List V->Hp->VK->Prop}
def Sn (r:List V->Hp->VK->Prop)(t:TA):TE:=λσ H Q=>t σ H λvs g=>r vs g Q
def pD (hc:bP X (.builtin id) r)(M:Gl X x)(hm:X.mg x=none)(hv:bootBuiltins x=some (.builtin id))(ha:PA X (e::es) t)(hn:x ≠ "__name__":=by decide)(g:(x == ("__debug__" : Str))=false:=by decide)
  (he:starEach (e::es) X.env=(false,eval e X.env)::starEach es X.env:=by rfl) (G:(backTo pos (starEach es X.env)).any (·.1)=false:=by rfl):PE X (.Call (.Name x p) (e::es) [] pos) (Sn r t):=by
 intro ae s σ H Q I h;refine wpAny_Call_Name_kw (l7 I M hm hv ?_ hn g);exact PyProof.Rows.callWith_builtin1 (c8 (ha pos ae s σ H _ I h) λus s1 ⟨vs,O,U,r1,q1⟩=>hc ae s1 σ O vs us Q U r1 q1) he G
def nj (hc:bP X (.type T) r)(M:Gl X x)(hm:X.mg x=none)(hv:bootBuiltins x=some (.type T))(ha:PA X (e::es) t)(hn:x ≠ "__name__":=by decide)(g:(x == ("__debug__" : Str))=false:=by decide)
  (he:starEach (e::es) X.env=(false,eval e X.env)::starEach es X.env:=by rfl) (G:(backTo pos (starEach es X.env)).any (·.1)=false:=by rfl):PE X (.Call (.Name x p) (e::es) [] pos) (Sn r t):=by
 intro ae s σ H Q I h;refine wpAny_Call_Name_kw (l7 I M hm hv ?_ hn g);exact PyProof.Rows.callWith_type1 (c8 (ha pos ae s σ H _ I h) λus s1 ⟨vs,O,U,r1,q1⟩=>hc ae s1 σ O vs us Q U r1 q1) he G
end
end L2
namespace HT
open PySem PyProof.Rows
section
open PySem.SeqAt
open PySem.AutoSeq1 (wpAny_loadPart')
open PySem.MeetsSeq PySem.MeetsSeq2 PySem.MeetsSeq3
end
section
variable {prog:Program}{w:World}{A:Around}{E:QV}{s:Shared}
def GG (ht:IsTup s.heap t vs.toArray)(hb:IsTup s.heap b ws.toArray)(hv:vs≠[])
  (h1:ws=[]->Q (.ref t) s) (h2:ws≠[]->Q (.ref s.heap.objs.size) { s with heap:=s.heap.push { cls:=.type "tuple",data:=.seq (vs++ws).toArray } })
  (hsz:vs.length+ws.length<=sizeLine):wpAny (model prog w) A (binaryOp .Add (.ref t) (.ref b)) Q E s:=by
 obtain⟨⟨cls,dd,data,sl⟩,U,hc,n,hd⟩:=id ht;obtain⟨⟨QW,G,data2,M⟩,g,O,n2,T⟩:=id hb;simp only at hc hd O T;subst hc hd O T;have e:vs.toArray++ws.toArray=(vs++ws).toArray:=by simp
 by_cases hw:ws=[]
 ·exact concat_meets ⟨_,U,rfl⟩ ⟨_,g,rfl⟩ noFill_tuple_add seq_tuple_add slot_tuple_add entry_tuple_add (args_tuple_add_2 _ _)
   (tuple_addW1 t b vs.toArray ws.toArray n n2 dd G sl M (by simpa using hv) (by simp[hw])) ⟨U,g,h1 hw⟩
 ·refine concat_meets ⟨_,U,rfl⟩ ⟨_,g,rfl⟩ noFill_tuple_add seq_tuple_add slot_tuple_add entry_tuple_add (args_tuple_add_2 _ _)
   (tuple_addW2 t b vs.toArray ws.toArray n n2 dd G sl M (by simpa using hv) (by simpa using hw) (by rw[vH,vH];exact hsz)) ⟨U,g,?_⟩
  rw[e];exact h2 hw
noncomputable def eF (n d:Nat):OI->Nat
 |none=>d
 |some v=>if v<0 then (v+(n:Int)).toNat else min v.toNat n
def KG (n d:Nat)(hd:d<=n)(o:OI):eF n d o<=n:=by
 cases o with
 |none=>exact hd
 |some v=>
  show(if v<0 then (v+(n:Int)).toNat else min v.toNat n)<=n;by_cases hv:v<0
  ·rw[if_pos hv];omega
  ·rw[if_neg hv];exact Nat.min_le_right _ _
def AA (v:Int)(n d:Nat):(if v<0 then max (v+(n:Int)) 0 else min v (n:Int))=((eF n d (some v):Nat):Int):=by
 show(if v<0 then max (v+(n:Int)) 0 else min v (n:Int))=(((if v<0 then (v+(n:Int)).toNat else min v.toNat n):Nat):Int);by_cases hv:v<0
 ·simp only[if_pos hv];omega
 ·simp only[if_neg hv];omega
def z7 (lo hi:OI)(n:Nat):Builtin.Slice.sliceAdjust lo hi 1 (n:Int)=(((eF n 0 lo:Nat):Int),((eF n n hi:Nat):Int)):=by
 have h1:¬((1:Int)<0):=by omega
 unfold Builtin.Slice.sliceAdjust;simp only[h1,if_false];refine Prod.ext ?_ ?_
 ·cases lo with
  |none=>rfl
  |some v=>exact AA v n 0
 ·cases hi with
  |none=>rfl
  |some v=>exact AA v n n
def z8 (i j:Nat):Builtin.Slice.slicePlaces (i:Int) (j:Int) 1=j - i:=by
 unfold Builtin.Slice.slicePlaces;have h1:(1:Int) > 0:=by omega
 simp only[h1,if_true,Int.ediv_one];split<;>omega
def pE (p:IsPart v o)(h:Q o s):wpAny (model prog w) A (Builtin.Slice.slicePartIndex v) Q E s:=by
 cases p with
 |none=>exact slicePart_none h
 |int i t=>exact slicePart_int h
def je {sl:Addr}{vl M:Value}{lo hi:OI}{n:Nat}{Q:Int×Int×Nat->Shared->Prop}(hs:s.heap.IsSliceOf sl vl M .none)(pl:IsPart vl lo)(O:IsPart M hi)
  (h:Q (((eF n 0 lo:Nat):Int),1,eF n n hi - eF n 0 lo) s):wpAny (model prog w) A (Builtin.Slice.sliceApplied (.ref sl) (pure (n:Int))) Q E s:=by
 obtain⟨os,g,T,G⟩:=id hs;unfold Builtin.Slice.sliceApplied Builtin.Slice.sliceFields;refine wX (wX (wpAny_field g G (x:=vl) rfl (wX (wpAny_field g G (x:=M) rfl (wX (wpAny_field g G (x:=.none) rfl (wY ?_)))))));refine wX (slicePart_none ?_);show wpAny _ _ (if((1:Int) == 0)=true then _ else _) _ _ s;rw[if_neg (by decide)];refine wX (pE pl (wX (pE O (wX (wY ?_)))));show wpAny _ _ (match Builtin.Slice.sliceAdjust lo hi 1 (n:Int) with|(lo,hi)=>pure (lo,(1:Int),Builtin.Slice.slicePlaces lo hi 1)) _ _ s;rw[z7 lo hi n];show wpAny _ _ (pure (((eF n 0 lo:Nat):Int),(1:Int),Builtin.Slice.slicePlaces ((eF n 0 lo:Nat):Int) ((eF n n hi:Nat):Int) 1)) _ _ s;rw[z8];exact wY h
def DN (xs:AV)(i k:Nat):((List.range k).filterMap λ(m:Nat)=>xs[((i:Int)+(m:Int)*1).toNat]?).toArray=((xs.toList.drop i).take k).toArray:=by
 have e:(λ(m:Nat)=>xs[((i:Int)+(m:Int)*1).toNat]?)=λm=>xs[i+m]?:=by
  funext m;have:((i:Int)+(m:Int)*1).toNat=i+m:=by omega
  rw[this]
 rw[e];have:=pick_run xs i k;rw[List.filterMap_map]at this;have e2:((λx=>xs[x]?) ∘ λx=>i+x)=λm=>xs[i+m]?:=rfl;rw[e2]at this;rw[this]
def lU {t sl:Addr}{items:AV}{vl vu:Value}{lo hi:OI}{Q:QV}(G:IsTup s.heap t items)(hs:s.heap.IsSliceOf sl vl vu .none)(pl:IsPart vl lo)(pu:IsPart vu hi)
  (hw:¬(eF items.size 0 lo=0/\eF items.size items.size hi=items.size))
  (h:Q (.ref s.heap.objs.size) { s with heap:=s.heap.push { cls:=.type "tuple",data:=.seq ((items.toList.drop (eF items.size 0 lo)).take (eF items.size items.size hi - eF items.size 0 lo)).toArray } })
  (hsz:items.size<=sizeLine):wpAny (model prog w) A (getItem (.ref t) (.ref sl)) Q E s:=by
 have g:sizeOk (.seq ((items.toList.drop (eF items.size 0 lo)).take (eF items.size items.size hi - eF items.size 0 lo)).toArray):=by
  show((items.toList.drop (eF items.size 0 lo)).take (eF items.size items.size hi - eF items.size 0 lo)).toArray.size<=sizeLine
  rw[vH,length_take,length_drop,vG]
  omega
 have hj:eF items.size items.size hi<=items.size:=KG _ _ (vT _) hi
 obtain⟨os,M,O,QX⟩:=id hs
 have T:s.TypeIs (.ref sl) "slice":=⟨os,M,O⟩
 unfold getItem
 try with_reducible refine wpAny_holding ?_
 first|refine wX (wY ?_)|skip
 refine wX (wpAny_sequenceKey G.typeIs (by decide) ?_)
 refine wX (wpAny_callSpecial?_slot (name:=Str.ofString "__getitem__") G.typeIs PyProof.Rows.slot_tuple_getitem
  (wpAny_call_entry PyProof.Rows.slot_tuple_getitem G.typeIs entry_tuple_getitem ?_ (args_tuple_getitem _ _)))
 show wpAny _ _ (Builtin.Tuple.tupleItemsOf (.ref t)>>=_) _ _ s
 refine wX (tupleItemsOf_ G ?_)
 refine wX (wpAny_typeOf T ?_)
 rw[if_pos (by decide)]
 refine wX (je hs pl pu ?_)
 have U:¬((((eF items.size 0 lo:Nat):Int) == 0 && (1:Int) == 1 && (eF items.size items.size hi - eF items.size 0 lo) == items.size)=true):=by
  intro q
  rw[vC,vC]at q
  have q1:((eF items.size 0 lo:Nat):Int)=0:=eq_of_beq q.1.1
  have q2:eF items.size items.size hi - eF items.size 0 lo=items.size:=eq_of_beq q.2
  exact hw ⟨by omega,by omega⟩
 show wpAny _ _ (if(((eF items.size 0 lo:Nat):Int) == 0 && (1:Int) == 1 && (eF items.size items.size hi - eF items.size 0 lo) == items.size)=true then _ else _) _ _ s
 rw[if_neg U,DN]
 first
  |exact wX (m:=Builtin.Tuple.tupleExact _) (wpAny_newObj_type (wY ⟨_,rfl,wY h⟩) g)
  |exact wX (m:=Builtin.Tuple.tupleExact _) (wpAny_newObj_type (wX (wY (wY ⟨_,rfl,wY h⟩))) g)
  |exact wX (wX (m:=Builtin.Tuple.tupleExact _) (wpAny_newObj_type (wY (wY ⟨_,rfl,wY h⟩)) g))
  |exact wX (wX (m:=Builtin.Tuple.tupleExact _) (wpAny_newObj_type (wY ⟨_,rfl,wY h⟩) g))
end
end HT
namespace L2
open PySem PySem.Spec PyProof.Rows
abbrev TO:=St->Hp->(OI->Hp->Prop)->Prop
def PO (X:Cx)(e:Option Expr)(t:TO):Prop :=
 ∀(ae:AO)(s:Shared)(σ:St)(H:Hp)(Q:OI->Hp->Prop),Inv X ae σ H s->t σ H Q ->
  wq X (evalPart e X.env) (λu s'=>∃o H',Inv X ae σ H' s'/\IsPart u o/\Q o H') X.xe s
def GH:TO:=λ_ H Q=>Q none H
def Nw (t:TE):TO:=λσ H Q=>t σ H λx g=>∃i,x=.int i/\Q (some i) g
section
variable {X:Cx}{e:Expr}{te:TE}{lo hi:Option Expr}{tl th:TO}{pos p2:Pos}
def GI:PO X none GH:=by
 intro ae s σ H Q I h;rw[evalPart_none];exact wY ⟨none,H,I,.none,h⟩
def GJ (h:PE X e te):PO X (some e) (Nw te):=by
 intro ae s σ H Q I hw;rw[evalPart_some];refine c8 (h ae s σ H _ I hw) λu s1 ⟨x,g,G,M,O⟩=>?_;obtain⟨i,rfl,q⟩:=O;obtain⟨t,rfl⟩:=M;exact⟨some i,g,G,.int i t,q⟩
def D9 (X:Cx)(r:V->OI->OI->Hp->VK->Prop):Prop :=
 ∀(ae:AO)(s:Shared)(σ:St)(H:Hp)(x:V)(v vl g:Value)(lo hi:OI)(sl:Addr)(Q:VK),Inv X ae σ H s->aU x v->s.heap.IsSliceOf sl vl g .none->IsPart vl lo->IsPart g hi->r x lo hi H Q ->
  ∃T id,typeLookup (.type T) "__getitem__" = pure (some (.builtin id))/\s.TypeIs v T/\wq X (getItem v (.ref sl)) (EP X ae σ Q) X.xe s
def D9.or (h:D9 X r)(h':D9 X r'):D9 X (λx lo hi H Q=>r x lo hi H Q∨r' x lo hi H Q):=by
 intro ae s σ H x v vl g lo hi sl Q I G hs pl M q;rcases q with q|q
 ·exact h ae s σ H x v vl g lo hi sl Q I G hs pl M q
 ·exact h' ae s σ H x v vl g lo hi sl Q I G hs pl M q
def Ut (r:V->OI->OI->Hp->VK->Prop)(te:TE)(tl th:TO):TE:=λσ H Q=>te σ H λx g=>tl σ g λl H2=>th σ H2 λu G=>r x l u G Q
def DO (O:D9 X r)(he:PE X e te)(hl:PO X lo tl)(hu:PO X hi th):PE X (.Subscript e (.Slice lo hi none p2) pos) (Ut r te tl th):=by
 intro ae s σ H Q I h;refine Subscript_ (c8 (he ae s σ H _ I h) λv s1 ⟨x,U,I1,r1,q1⟩=>?_);refine wpAny_Slice (c8 (hl ae s1 σ U _ I1 q1) λvl s2 ⟨l,H2,I2,pl,q2⟩=>c8 (hu ae s2 σ H2 _ I2 q2) λG g ⟨u,M,I3,pu,q3⟩=>?_);rw[evalPart_none];refine wY ?_;have I4:Inv X ae σ M { g with heap:=g.heap.push { cls:=.type "slice",data:=.fields #[vl,G,.none] } }:=I3.kept (t':=g.toks) λb ob q=>vZ _ q;obtain⟨T,id,hT,ht,hg⟩:=O ae { g with heap:=g.heap.push { cls:=.type "slice",data:=.fields #[vl,G,.none] } } σ M x v vl G l u g.heap.objs.size Q I4 r1 (Heap.IsSliceOf.new ..) pl pu q3;show wq X (subscriptTail e (.Slice lo hi none p2) v (.ref g.heap.objs.size)) (EP X ae σ Q) X.xe { g with heap:=g.heap.push { cls:=.type "slice",data:=.fields #[vl,G,.none] } };exact tail_any (ops:=[.ref g.heap.objs.size,v]) ht hT hg (by with_unfolding_all rfl)
def se (xs:List V)(lo hi:OI):List V:=(xs.drop (HT.eF xs.length 0 lo)).take (HT.eF xs.length xs.length hi - HT.eF xs.length 0 lo)
def nY (xs:List V)(lo hi:OI):(se xs lo hi).length<=xs.length:=by
 unfold se;rw[length_take,length_drop];omega
def Qk (K:Frag):V->OI->OI->Hp->VK->Prop:=λx lo hi H Q=>∃a xs,x=.ref a/\jc K H a xs /\
 ¬(HT.eF xs.length 0 lo=0/\HT.eF xs.length xs.length hi=xs.length)/\∀p,H p=none->Q (.ref p) (upd H p (.tup (se xs lo hi)))
def KH:D9 X (Qk X.K):=by
 intro ae s σ H x v vl T lo hi sl Q I M hs pl O h;obtain⟨a,xs,rfl,hx,hw,q⟩:=h;cases M
 obtain⟨its,r,G,hz⟩:=I.tuple hx;have g:its.toArray.size=xs.length:=by rw[vH];exact r.length.symm
 refine⟨"tuple",_,PyProof.Rows.slot_tuple_getitem.lookup,G.typeIs,?_⟩;refine HT.lU G hs pl O (by rw[g];exact hw) ?_ (by rw[g];exact hz);rw[g];refine⟨.ref s.heap.objs.size,_,I.laid (t':=s.toks) (o:=.tup (se xs lo hi)) (λb ob q=>vZ _ q) (vT _) ?_,rfl,q _ (I.hok.fresh (vT _))⟩;exact⟨vR (nY xs lo hi) hz,_,(r.drop (HT.eF xs.length 0 lo)).take (HT.eF xs.length xs.length hi - HT.eF xs.length 0 lo),IsTup.new _ _⟩
def Nx (K:Frag):R2:=λx y H Q=>∃a b xs ys,x=.ref a/\y=.ref b/\jc K H a xs/\jc K H b ys/\xs≠[]/\xs.length+ys.length<=sizeLine /\
 (ys=[]->Q (.ref a) H)/\(ys≠[]->∀p,H p=none->Q (.ref p) (upd H p (.tup (xs++ys))))
def bc.nil_iff (r:bc xs us):us=[]↔xs=[]:=by
 cases r with
 |nil=>simp
 |cons _ _=>simp
def GK:dE X (binaryOp .Add) (Nx X.K):=by
 intro ae s σ H x y v u Q I O T h;obtain⟨a,b,xs,ys,rfl,rfl,ha,hb,hx,hz,U,q2⟩:=h;cases O
 cases T
 obtain⟨its,G,p1,_⟩:=I.tuple ha;obtain⟨M,g,p2,_⟩:=I.tuple hb;refine HT.GG p1 p2 (λz=>hx (G.nil_iff.mp z)) (λz=>⟨.ref a,H,I,rfl,U (g.nil_iff.mp z)⟩) (λz=>?_) (by rw[←G.length,←g.length];exact hz);refine⟨.ref s.heap.objs.size,_,I.laid (t':=s.toks) (o:=.tup (xs++ys)) (λb ob q=>vZ _ q) (vT _) ?_,rfl,q2 (λw=>z (g.nil_iff.mpr w)) _ (I.hok.fresh (vT _))⟩;exact⟨by rw[uZ];exact hz,_,G.append g,IsTup.new _ _⟩
end
def C1 (n:Nat)(i:Int):Option Nat:=if 0<=i then (if i<n then some i.toNat else none)else if -(n:Int)<=i then some (i+n).toNat else none
def nZ {α:Type}(xs:List α)(i:Int):Option α:=(C1 xs.length i).bind λj=>xs[j]?
def AB (h:C1 n i=some j):seqIndex? i n=some j/\j<n/\-(n:Int)<=i/\i<n:=by
 unfold C1 at h;by_cases h0:0<=i
 ·rw[if_pos h0]at h;by_cases h1:i<n
  ·rw[if_pos h1]at h;have e:i.toNat=j:=vK h;exact⟨by rw[seqIndex_of h0 h1,e],by omega,by omega,h1⟩
  ·rw[if_neg h1]at h;cases h
 ·rw[if_neg h0]at h;by_cases h1 : -(n:Int)<=i
  ·rw[if_pos h1]at h;have e:(i+n).toNat=j:=vK h;exact⟨by rw[seqIndex_neg (by omega) h1,e],by omega,h1,by omega⟩
  ·rw[if_neg h1]at h;cases h
def uB {α:Type}{xs:List α}{i:Int}{v:α}(h:nZ xs i=some v):∃j,seqIndex? i xs.length=some j/\xs[j]? = some v/\j<xs.length/\-(xs.length:Int)<=i/\i<xs.length:=by
 unfold nZ at h;cases e:C1 xs.length i with
 |none=>rw[e]at h;cases h
 |some j=>
  rw[e]at h;obtain⟨h1,h2,h3,h4⟩:=AB e;exact⟨j,h1,h,h2,h3,h4⟩
def GL {α:Type}{xs:List α}{j:Nat}{v:α}(h:xs[j]? = some v):nZ xs (j:Int)=some v:=by
 have hj:j<xs.length:=(vV h).1;have e:C1 xs.length (j:Int)=some j:=by
  unfold C1;rw[if_pos (by omega),if_pos (by omega)];simp
 unfold nZ;rw[e];exact h
def uC (b:Expr):Prop:=∀o i,subscripted b false o i=operate [o,i] (getItem o i)
def Gj (X:Cx)(r:R2):Prop :=
 ∀(G g:Expr)(ae:AO)(s:Shared)(σ:St)(H:Hp)(x y:V)(v u:Value)(Q:VK),Inv X ae σ H s->aU x v->aU y u->r x y H Q ->
  subscripted g false v u=operate [v,u] (getItem v u)->wq X (subscriptTail G g v u) (EP X ae σ Q) X.xe s
def GN (X:Cx)(id:String)(r:V->List V->Hp->VK->Prop):Prop :=
 ∀(ae:AO)(s:Shared)(σ:St)(H:Hp)(x:V)(xs:List V)(v:Value)(us:LU)(Q:VK),Inv X ae σ H s->aU x v->bc xs us->r x xs H Q ->
  wq X (call (.builtin id) (v::us)) (EP X ae σ Q) X.xe s
section
variable {X:Cx}{a b:Expr}{ta tb:TE}{pos:Pos}
def Gj.or (h:Gj X r)(h':Gj X r'):Gj X (λx y H Q=>r x y H Q∨r' x y H Q):=by
 intro g G ae s σ H x y v u Q I M O q hs;rcases q with q|q
 ·exact h g G ae s σ H x y v u Q I M O q hs
 ·exact h' g G ae s σ H x y v u Q I M O q hs
def GN.or {id:String}{r g:V->List V->Hp->VK->Prop}(h:GN X id r)(h':GN X id g):GN X id (λx xs H Q=>r x xs H Q∨g x xs H Q):=by
 intro ae s σ H x xs v us Q I G M q;rcases q with q|q
 ·exact h ae s σ H x xs v us Q I G M q
 ·exact h' ae s σ H x xs v us Q I G M q
def Jn (g:Gj X r)(ha:PE X a ta)(hb:PE X b tb)(hs:uC b):PE X (.Subscript a b pos) (Py r ta tb):=by
 intro ae s σ H Q I h;exact Subscript_ (K2 ha hb I h λv u s2 x y H2 G M O q=>g a b ae s2 σ H2 x y v u Q G M O q (hs _ _))
def Ql (K:Frag):R2:=λx y H Q=>∃p xs i v,x=.ref p/\y=.int i/\gP K H p xs/\nZ xs i=some v/\Q v H
def Qm (K:Frag):R2:=λx y H Q=>∃p xs i v,x=.ref p/\y=.int i/\jc K H p xs/\nZ xs i=some v/\Q v H
def Qn:R2:=λx y H Q=>∃z i c,x=.str z/\y=.int i/\z.length<=sizeLine/\nZ z.cps.toList i=some c/\Q (.str ⟨#[c]⟩) H
def GO:Gj X (Ql X.K):=by
 intro g G ae s σ H x y v u Q I T U h hs;obtain⟨p,xs,i,z,rfl,rfl,hq,he,q⟩:=h;cases T
 obtain⟨t,rfl⟩:=U;obtain⟨its,r,pl,hz⟩:=I.list hq;obtain⟨j,h1,h2,h3,h4,h5⟩:=uB he;obtain⟨w,O,M⟩:=r.get h2;have hl:=r.length;have hn:=ng;have iC:EP X ae σ Q w s:=⟨z,H,I,M,q⟩;by_cases h0:0<=i
 ·have hj:i.toNat=j:=by
   rw[seqIndex_of h0 h5]at h1;exact vK h1
  exact item_listR pl.isList h0 (by omega) (by rw[hj];simpa using O) iC hs
 ·have hj:(i+(its.toArray.size:Int)).toNat=j:=by
   rw[seqIndex_neg (by omega) h4]at h1;rw[vH,←hl];exact vK h1
  exact subscriptTail_builtinR (x:=w) pl.isList.typeIs slot_list_getitem.lookup
   (wpAny_getItem_list_neg (Q:=λr s'=>r=w/\EP X ae σ Q r s') pl.isList (by omega) (by rw[vH]<;>omega) (by omega) (by rw[hj];simpa using O) ⟨rfl,iC⟩) hs
def z9:Gj X (Qm X.K):=by
 intro g G ae s σ H x y v u Q I O T h hs;obtain⟨p,xs,i,z,rfl,rfl,hq,he,q⟩:=h;cases O
 obtain⟨t,rfl⟩:=T;obtain⟨its,r,pl,hz⟩:=I.tuple hq;obtain⟨j,h1,h2,h3,h4,h5⟩:=uB he;obtain⟨w,U,M⟩:=r.get h2;have hl:=r.length;have hn:=ng;have iC:EP X ae σ Q w s:=⟨z,H,I,M,q⟩;exact subscriptTail_builtinR (x:=w) pl.typeIs slot_tuple_getitem.lookup
  (getItem_tuple (j:=j) (Q:=λr s'=>r=w/\EP X ae σ Q r s') pl (by omega) (by omega) (by rw[vH,←hl];exact h1) (by simpa using U) ⟨rfl,iC⟩) hs
def zA:Gj X Qn:=by
 intro g G ae s σ H x y v u Q I M O h hs;obtain⟨z,i,c,rfl,rfl,hz,he,q⟩:=h;obtain⟨t,rfl⟩:=M;obtain⟨t',rfl⟩:=O;obtain⟨j,h1,h2,h3,h4,h5⟩:=uB he;have hl:z.cps.toList.length=z.length:=by simp[Str.length]
 rw[hl]at h1 h4 h5;have hn:=ng;exact tail_any (typeIs_str s z t) slot_str_getitem.lookup (getItem_str (c:=c) (by
  have T:decide (i < -(2 ^ 63:Int))=false:=decide_eq_false (by omega);have e2:decide (i ≥ 2 ^ 63)=false:=decide_eq_false (by omega);rw[T,e2,Bool.or_false]) (by rw[h1];simpa using h2) ⟨.str ⟨#[c]⟩,H,I.tok _,⟨_,rfl⟩,q⟩) hs
def zB (its:LU)(n j:Nat)(u:Value):Obj.mapSeq (·.setIfInBounds j u) { cls:=.type "list",data:=.seq its.toArray n }={ cls:=.type "list",data:=.seq (its.set j u).toArray n }:=by
 simp[Obj.mapSeq]
def Inv.lst (I:Inv X ae σ H s)(h:H p=some (.lst xs)):
  ∃(its:LU)(n:Nat),bc xs its/\s.heap.get? p=some { cls:=.type "list",data:=.seq its.toArray n }/\xs.length<=sizeLine:=by
 obtain⟨z,its,n,r,e⟩:=I.hok p _ h;exact⟨its,n,r,e,z⟩
def Inv.lstUpd {ae:AO}{σ:St}{H:Hp}{s:Shared}{p:Addr}{xs ys:List V}{its its':LU}{n g:Nat}{f:Obj->Obj}(I:Inv X ae σ H s)(h:H p=some (.lst xs))
  (G:s.heap.get? p=some { cls:=.type "list",data:=.seq its.toArray n }) (hf:f { cls:=.type "list",data:=.seq its.toArray n }={ cls:=.type "list",data:=.seq its'.toArray g }) (r:bc ys its') (hz:ys.length<=sizeLine) (t:Nat):
  Inv X ae σ (upd H p (.lst ys)) { s with heap:=s.heap.update p f,toks:=t }:=by
 have e:(s.heap.update p f).get? p=some { cls:=.type "list",data:=.seq its'.toArray g }:=by
  rw[Heap.get?_update_self f G (by rw[hf]<;>rfl),hf]
 refine I.write (x:=p) (e:=p) (by rw[h];trivial) (.inl rfl) (λb u hb q=>(Heap.get?_update_other _ _ (Ne.symm hb)).trans q) ⟨_,e⟩ ?_;exact⟨hz,its',g,r,e⟩
def Ny:V->V->V->Hp->(Hp->Prop)->Prop:=λo i v H Q=>∃p xs k j,o=.ref p/\i=.int k/\H p=some (.lst xs)/\C1 xs.length k=some j/\Q (upd H p (.lst (xs.set j v)))
def DP:Nf X Ny:=by
 intro ae s σ H o i v U iv u Q I M O T h;obtain⟨p,xs,k,j,rfl,rfl,hp,hj,q⟩:=h;cases M
 obtain⟨t,rfl⟩:=O;obtain⟨its,n,r,g,hz⟩:=I.lst hp;obtain⟨h1,h2,h3,h4⟩:=AB hj;have hl:=r.length;have hn:=ng;have G:Inv X ae σ (upd H p (.lst (xs.set j v))) { s with heap:=s.heap.update p (Obj.mapSeq (·.setIfInBounds j u)) } :=
  I.lstUpd hp g (zB its n j u) (r.set T j) (by rw[length_set];exact hz) s.toks
 by_cases h0:0<=k
 ·have hk:k.toNat=j:=by
   rw[seqIndex_of h0 h4]at h1;exact vK h1
  exact PySem.W.ki_setAt g h0 (by omega) (by rw[vH,←hl];exact h4) (by rw[hk];exact⟨_,G,q⟩)
 ·have hk:(k+(its.toArray.size:Int)).toNat=j:=by
   rw[seqIndex_neg (by omega) h3]at h1;rw[vH,←hl];exact vK h1
  exact PySem.W.ki_setBack g (by omega) (by rw[vH,←hl];exact h3) (by omega) (by rw[hk];exact⟨_,G,q⟩)
def uE (lo hi:OI)(n:Nat):(sliceBounds lo hi none n).1=((HT.eF n 0 lo:Nat):Int)/\(sliceBounds lo hi none n).2.1=((HT.eF n n hi:Nat):Int)/\(sliceBounds lo hi none n).2.2=1:=by
 refine⟨?_,?_,rfl⟩
 ·cases lo with
  |none=>simp[sliceBounds,HT.eF]
  |some i=>
   simp only[sliceBounds,HT.eF,getD_none,show(1:Int) > 0 by decide,if_true];by_cases h:i<0
   ·simp only[h,if_true]<;>omega
   ·simp only[h,if_false]<;>omega
 ·cases hi with
  |none=>simp[sliceBounds,HT.eF]
  |some i=>
   simp only[sliceBounds,HT.eF,getD_none,show(1:Int) > 0 by decide,if_true];by_cases h:i<0
   ·simp only[h,if_true]<;>omega
   ·simp only[h,if_false]<;>omega
def sg (its:LU)(lo hi:OI):slicePick its.toArray lo hi none=((its.drop (HT.eF its.length 0 lo)).take (HT.eF its.length its.length hi - HT.eF its.length 0 lo)).toArray:=by
 obtain⟨h1,h2,h3⟩:=uE lo hi its.toArray.size;unfold slicePick;rw[h1,h2,h3];simp only[sliceRange_one,pick_run,vH]<;>rfl
def Qo (K:Frag):V->OI->OI->Hp->VK->Prop:=λx lo hi H Q=>∃a xs,x=.ref a/\gP K H a xs/\∀p,H p=none->Q (.ref p) (upd H p (.lst (se xs lo hi)))
def GP:D9 X (Qo X.K):=by
 intro ae s σ H x v vl T lo hi sl Q I M hs pl O h;obtain⟨a,xs,rfl,hx,q⟩:=h;cases M
 obtain⟨its,r,G,hz⟩:=I.list hx;have g:=r.length;refine⟨"list",_,slot_list_getitem.lookup,G.isList.typeIs,?_⟩;refine wpAny_getItem_list_slice G.isList hs pl O .none (by simp) ?_ (by rw[vH]<;>omega)
 rw[sg,←g];refine⟨.ref s.heap.objs.size,_,I.laid (t':=s.toks) (o:=.lst (se xs lo hi)) (λb ob q=>vZ _ q) (vT _) ?_,rfl,q _ (I.hok.fresh (vT _))⟩;exact⟨vR (nY xs lo hi) hz,_,0,(r.drop (HT.eF xs.length 0 lo)).take (HT.eF xs.length xs.length hi - HT.eF xs.length 0 lo),vY _ rfl⟩
noncomputable def lg:V->Bool
 |.non=>true
 |.bl _=>true
 |.int _=>true
 |.str _=>true
 |_=>false
def Gk:V->V->Bool
 |.non,.non=>true
 |.bl a,.bl b=>a == b
 |.bl a,.int b=>(if a then 1 else 0) == b
 |.int a,.bl b=>a == (if b then 1 else 0)
 |.int a,.int b=>a == b
 |.str a,.str b=>a == b
 |_,_=>false
def KI (G:aU y u)(g:aU x v)(O:lg y=true)(M:lg x=true):SeqAt.EqAt A s u v (Gk y x):=by
 cases y with
 |non=>
  cases G
  cases x with
  |non=>cases g;exact SeqAt.EqAt.same _
  |bl b=>cases g;exact SeqAt.EqAt.none_bool b
  |int b=>obtain⟨t,rfl⟩:=g;exact SeqAt.EqAt.none_int b t
  |str b=>obtain⟨t,rfl⟩:=g;exact SeqAt.EqAt.none_str b t
  |_=>exact absurd (show false=true from M) uX
 |bl a=>
  cases G
  cases x with
  |non=>cases g;exact SeqAt.EqAt.bool_none a
  |bl b=>cases g;exact SeqAt.EqAt.bool_bool a b
  |int b=>obtain⟨t,rfl⟩:=g;exact SeqAt.EqAt.bool_int a b t
  |str b=>obtain⟨t,rfl⟩:=g;exact SeqAt.EqAt.bool_str a b t
  |_=>exact absurd (show false=true from M) uX
 |int a=>
  obtain⟨t',rfl⟩:=G;cases x with
  |non=>cases g;exact SeqAt.EqAt.int_none a t'
  |bl b=>cases g;exact SeqAt.EqAt.int_bool a t' b
  |int b=>obtain⟨t,rfl⟩:=g;exact SeqAt.EqAt.int_int a t' b t
  |str b=>obtain⟨t,rfl⟩:=g;exact SeqAt.EqAt.int_str a t' b t
  |_=>exact absurd (show false=true from M) uX
 |str a=>
  obtain⟨t',rfl⟩:=G;cases x with
  |non=>cases g;exact SeqAt.EqAt.str_none a t'
  |bl b=>cases g;exact SeqAt.EqAt.str_bool a t' b
  |int b=>obtain⟨t,rfl⟩:=g;exact SeqAt.EqAt.str_int a t' b t
  |str b=>obtain⟨t,rfl⟩:=g;exact SeqAt.EqAt.str_str a t' b t
  |_=>exact absurd (show false=true from M) uX
 |_=>exact absurd (show false=true from O) uX
def zC (x:V)(u:Value):Bool:=match u with
 |.none=>Gk .non x
 |.bool b=>Gk (.bl b) x
 |.int i _=>Gk (.int i) x
 |.str z _=>Gk (.str z) x
 |_=>false
def DQ (r:aU y u)(f:lg y=true):zC x u=Gk y x:=by
 cases y with
 |non=>cases r;rfl
 |bl b=>cases r;rfl
 |int i=>obtain⟨t,rfl⟩:=r;rfl
 |str z=>obtain⟨t,rfl⟩:=r;rfl
 |_=>exact absurd (show false=true from f) uX
theorem lV:∀ {xs:List V}{us:LU},bc xs us->xs.all lg=true->us.any (zC x)=xs.any λy=>Gk y x
 |_,_,.nil,_=>rfl
 |y::xs,u::us,.cons r t,f=>by
  rw[all_cons,vC]at f;rw[any_cons,any_cons,DQ r f.1,lV t f.2]
theorem jQ (g:aU x v)(G:lg x=true):∀ {xs:List V}{us:LU},bc xs us->xs.all lg=true->∀u∈us,SeqAt.EqAt A s u v (zC x u)
 |_,_,.nil,_=>λu hu=>by cases hu
 |y::xs,u::us,.cons r t,f=>λM hu=>by
  rw[all_cons,vC]at f;rcases vP hu with rfl|hu
  ·rw[DQ r f.1];exact KI r g f.1 G
  ·exact jQ g G t f.2 M hu
noncomputable def Pz (x:V)(xs:List V):Bool:=xs.any λy=>Gk y x
def So (K:Frag)(g:Bool):R2:=λx y H Q=>∃p xs,y=.ref p/\(gP K H p xs∨jc K H p xs)/\lg x=true/\xs.all lg=true/\Q (.bl (if g then !Pz x xs else Pz x xs)) H
def C2:dE X (compareOp .In) (So X.K false):=by
 intro ae s σ H x y v u Q I g M h;obtain⟨p,xs,rfl,hq,G,fs,q⟩:=h;cases M
 rcases hq with hq|hq
 ·obtain⟨its,r,pl,hz⟩:=I.list hq;refine SeqAt.in_listAt (zC x) pl.isList (λw hw=>jQ g G r fs w (by simpa using hw)) ⟨.bl _,H,I,rfl,?_⟩;rw[show its.toArray.any (zC x)=its.any (zC x) by simp,lV r fs];exact q
 ·obtain⟨its,r,pl,hz⟩:=I.tuple hq;refine SeqAt.in_tupleAt (zC x) pl (λw hw=>jQ g G r fs w (by simpa using hw)) ⟨.bl _,H,I,rfl,?_⟩;rw[show its.toArray.any (zC x)=its.any (zC x) by simp,lV r fs];exact q
def uF:dE X (compareOp .NotIn) (So X.K true):=by
 intro ae s σ H x y v u Q I g M h;obtain⟨p,xs,rfl,hq,G,fs,q⟩:=h;cases M
 rcases hq with hq|hq
 ·obtain⟨its,r,pl,hz⟩:=I.list hq;refine SeqAt.notIn_listAt (zC x) pl.isList (λw hw=>jQ g G r fs w (by simpa using hw)) ⟨.bl _,H,I,rfl,?_⟩;rw[show its.toArray.any (zC x)=its.any (zC x) by simp,lV r fs];exact q
 ·obtain⟨its,r,pl,hz⟩:=I.tuple hq;refine SeqAt.notIn_tupleAt (zC x) pl (λw hw=>jQ g G r fs w (by simpa using hw)) ⟨.bl _,H,I,rfl,?_⟩;rw[show its.toArray.any (zC x)=its.any (zC x) by simp,lV r fs];exact q
def uG:bP X (.builtin "len") (λxs H Q=>∃p ys,xs=[.ref p]/\(gP X.K H p ys∨jc X.K H p ys)/\Q (.int ys.length) H):=by
 intro ae s σ H xs us Q I r h;obtain⟨p,ys,rfl,hq,q⟩:=h;obtain⟨u,rfl,M⟩:=gK r;cases M
 have hn:=ng;rcases hq with hq|hq
 ·obtain⟨its,G,pl,hz⟩:=I.list hq;have g:=G.length;exact Calls.call_len_list pl.isList (by simp only[vH]<;>omega) ⟨.int ys.length,H,I.tok _,⟨s.toks+1,by rw[vH,g]⟩,q⟩
 ·obtain⟨its,G,pl,hz⟩:=I.tuple hq;have g:=G.length;exact len_tuple pl (by simp only[vH]<;>omega) ⟨.int ys.length,H,I.tok _,⟨s.toks+1,by rw[vH,g]⟩,q⟩
def uH:bP X (.builtin "len") (λxs H Q=>∃z,xs=[.str z]/\z.length<=sizeLine/\Q (.int z.length) H):=by
 intro ae s σ H xs us Q I r h;obtain⟨z,rfl,hz,q⟩:=h;obtain⟨u,rfl,t,rfl⟩:=gK r;have hn:=ng;exact len_str (by omega) ⟨.int z.length,H,I.tok _,⟨_,rfl⟩,q⟩
def bP.or (h:bP X f r)(h':bP X f r'):bP X f (λxs H Q=>r xs H Q∨r' xs H Q):=by
 intro ae s σ H xs us Q I g q;rcases q with q|q
 ·exact h ae s σ H xs us Q I g q
 ·exact h' ae s σ H xs us Q I g q
def uI:bP X (.type "list") (λxs H Q=>∃p ys,xs=[.ref p]/\(gP X.K H p ys∨jc X.K H p ys)/\∀l,H l=none->Q (.ref l) (upd H l (.lst ys))):=by
 intro ae s σ H xs us Q I r h;obtain⟨p,ys,rfl,hq,q⟩:=h;obtain⟨u,rfl,T⟩:=gK r;cases T
 have iC:∀(its:LU),bc ys its->ys.length<=sizeLine->∀(h':Heap)(g:Nat),(∀b o',s.heap.get? b=some o'->h'.get? b=some o') ->
   h'.get? s.heap.objs.size=some { cls:=.type "list",dict:=none,data:=.seq its.toArray g,slots:=#[] }->EP X ae σ Q (.ref s.heap.objs.size) { s with heap:=h' }:=λits G hz h' g kp e=>
  ⟨.ref s.heap.objs.size,_,I.laid (t':=s.toks) kp (vT _) (show bO X.prog X.w _ h' _ (.lst ys)from ⟨hz,its,g,G,e⟩),rfl,q _ (I.hok.fresh (vT _))⟩
 rcases hq with hq|hq
 ·obtain⟨its,G,pl,hz⟩:=I.list hq;have M:=G.length;obtain⟨o,O,hc,n,hd⟩:=pl.isList;exact call_list_seq p (.inl rfl) O hc hd (λh' g kp e=>iC its G hz h' g kp e) (by simp only[vH]<;>omega)
 ·obtain⟨its,G,pl,hz⟩:=I.tuple hq;have M:=G.length;obtain⟨o,O,hc,n,hd⟩:=pl;exact call_list_seq p (.inr rfl) O hc hd (λh' g kp e=>iC its G hz h' g kp e) (by simp only[vH]<;>omega)
def si:bP X (.type "tuple") (λxs H Q=>∃p ys,xs=[.ref p]/\((gP X.K H p ys/\∀l,H l=none->Q (.ref l) (upd H l (.tup ys)))∨(jc X.K H p ys/\Q (.ref p) H))):=by
 intro ae s σ H xs us Q I r h;obtain⟨p,ys,rfl,h⟩:=h;obtain⟨u,rfl,O⟩:=gK r;cases O
 rcases h with⟨hq,q⟩|⟨hq,q⟩
 ·obtain⟨its,g,pl,hz⟩:=I.list hq;have G:=g.length;refine call_tuple_list pl.isList (λh' kp=>?_) (by simp only[vH]<;>omega)
  have M:Inv X ae σ H { s with heap:=h' }:=I.kept (t':=s.toks) kp;have T:Inv X ae σ (upd H h'.objs.size (.tup ys)) { s with heap:=h'.push { cls:=.type "tuple",data:=.seq its.toArray } } :=
   M.laid (t':=s.toks) (λb o e=>vZ _ e) (vT _) (show bO X.prog X.w _ _ _ (.tup ys)from ⟨hz,its,g,IsTup.new _ _⟩)
  exact⟨.ref h'.objs.size,_,T,rfl,q _ (M.hok.fresh (vT _))⟩
 ·obtain⟨its,g,pl,hz⟩:=I.tuple hq;exact call_tuple_same pl ⟨.ref p,H,I,rfl,q⟩
def Sq (K:Frag)(T:String)(x:V)(H:Hp):Prop:=match x with
 |.str _=>T = "str"
 |.int _=>T = "int"
 |.ref p=>(T = "list"/\∃xs,gP K H p xs)∨(T = "tuple"/\∃o,K.lookup p=some o/\o.cls=.type "tuple"/\o.dict=none) ∨
   (T = "dict"/\((∃aG ob,H p=some (.dK aG ob))∨∃aG,H p=some (.dT aG)))∨(T = "set"/\∃S n,H p=some (.set S n))
 |_=>False
def zD (I:Inv X ae σ H s)(r:aU x v)(ty:Sq X.K T x H):
  s.TypeIs v T/\∀a,v=.ref a->∃ob,s.heap.get? a=some ob/\ob.dict=none:=by
 cases x with
 |str z=>
  obtain⟨t,rfl⟩:=r;cases (show T = "str" from ty)
  exact⟨typeIs_str s z t,λ_ e=>nomatch e⟩
 |int i=>
  obtain⟨t,rfl⟩:=r;cases (show T = "int" from ty)
  exact⟨typeIs_int s i t,λ_ e=>nomatch e⟩
 |ref p=>
  cases r
  rcases ty with⟨rfl,xs,hq⟩|⟨rfl,o,hk,hc,hd⟩|⟨rfl,hk⟩|⟨rfl,S,n,hk⟩
  ·obtain⟨its,_,pl,_⟩:=I.list hq;refine⟨pl.isList.typeIs,λa e=>?_⟩;cases e
   obtain⟨o,n,e,c,hd,_⟩:=pl;exact⟨o,e,hd⟩
  ·refine⟨⟨o,I.kIn p o hk,hc⟩,λa e=>?_⟩;cases e
   exact⟨o,I.kIn _ o hk,hd⟩
  ·have z:∃o,s.heap.get? p=some o/\o.ExactDict:=by
    rcases hk with⟨aG,g,hk⟩|⟨aG,hk⟩
    ·obtain⟨_,_,_,_,_,o,_,_,e,ex,_⟩:=I.hok p _ hk;exact⟨o,e,ex⟩
    ·obtain⟨_,_,_,_,o,_,_,e,ex,_⟩:=I.hok p _ hk;exact⟨o,e,ex⟩
   obtain⟨o,e,ex⟩:=z;refine⟨⟨o,e,ex.1⟩,λa e2=>?_⟩;cases e2
   exact⟨o,e,ex.2.1⟩
  ·obtain⟨o,_,_,_,e,ex,_⟩:=I.hok p _ hk;refine⟨⟨o,e,ex.1⟩,λa e2=>?_⟩;cases e2
   exact⟨o,e,ex.2.1⟩
 |_=>exact False.elim ty
def Uu (K:Frag)(T:String)(r:V->List V->Hp->VK->Prop)(to:TE)(t:TA):TE:=λσ H Q=>to σ H λx g=>Sq K T x g/\t σ g λxs H2=>r x xs H2 Q
variable {o e:Expr}{es:QD}{to:TE}{t:TA}{name:Str}{cG bR:Pos}{T id:String}{r:V->List V->Hp->VK->Prop}
def xg (pa:PlainAttrs T)(slot:Slot T name id)(U:typeOf (.builtin id)=pure (.type "method_descriptor"))(hm:GN X id r)(ho:PE X o to)(ha:PA X (e::es) t)
  (G:attributeBase o name X.env (eval o X.env)=eval o X.env:=by rfl)
  (O:((backTo bR (starEach (e::es) X.env)).all (λx=>!x.1) && (backToKw bR (keywordEach [] X.env)).all (λx=>x.1.isSome)
   && decide ((e::es).length+([]:List Keyword).length+(if([]:List Keyword).isEmpty then 0 else 1)<30))=true:=by rfl)
  (M:(cG.endLine == bR.line)=true:=by rfl) (hs:starEach (e::es) X.env=(false,eval e X.env)::starEach es X.env:=by rfl) (g:(backTo bR (starEach es X.env)).any (·.1)=false:=by rfl):
  PE X (.Call (.Attribute o name cG) (e::es) [] bR) (Uu X.K T r to t):=by
 intro ae s σ H Q I h;refine wpAny_Call_method_late G O M rfl (c8 (ho ae s σ H _ I h) λv s1 ⟨x,H1,I1,r1,ty,q1⟩=>?_);obtain⟨h1,h2⟩:=zD I1 r1 ty;refine⟨T,id,pa,slot,U,h1,h2,?_⟩;have hA:=ha bR ae s1 σ H1 _ I1 q1;rw[hs]at hA ⊢;refine Calls.callWith_builtin (by show(false || (backTo bR (starEach es X.env)).any (·.1))=false;rw[g]<;>rfl) (Calls.evalArgs_plain ?_)
 exact c8 hA λus s2 ⟨vs,H2,I2,r2,q2⟩=>hm ae s2 σ H2 x vs v us Q I2 r1 r2 q2
/- xs.append(e),list.index on a module's tuple .. are GN facts of 06m -/
end
def Sr (X:Cx)(id:String)(r:V->List V->Hp->VK->Prop):Prop :=
 ∀(ae:AO)(s:Shared)(σ:St)(H:Hp)(x:V)(xs:List V)(v:Value)(us:LU)(Q:VK),Inv X ae σ H s->aU x v->bc xs us->r x xs H Q ->
  wq X (call (.builtin id) (v::us)) (EP X ae σ Q) X.xe s
theorem bc.one:∀ {x:V}{us:LU},bc [x] us->∃u,us=[u]/\aU x u
 |_,_,.cons r .nil=>⟨_,rfl,r⟩
theorem bc.two:∀ {x y:V}{us:LU},bc [x,y] us->∃u v,us=[u,v]/\aU x u/\aU y v
 |_,_,_,.cons r (.cons q .nil)=>⟨_,_,rfl,r,q⟩
theorem bc.rep (h:bc xs us):∀k:Nat,bc (List.replicate k xs).flatten (List.replicate k us).flatten
 |0=>.nil
 |k+1=>by
  rw[replicate_succ,replicate_succ,flatten_cons,flatten_cons];exact bc.append h (bc.rep h k)
theorem sX (its:LU):∀(k:Nat)(g:LU),
  List.foldl (λG M=>G++M) g.toArray (List.replicate k its.toArray)=(g++(List.replicate k its).flatten).toArray
 |0,g=>by simp
 |k+1,g=>by
  have e:g.toArray++its.toArray=(g++its).toArray:=by simp
  have e2:(g++its)++(List.replicate k its).flatten=g++(List.replicate (k+1) its).flatten:=by
   rw[replicate_succ,flatten_cons,append_assoc]
  rw[←e2,←sX its k (g++its),←e,replicate_succ,foldl_cons]
section
variable {X:Cx}{ae:AO}{σ:St}{H:Hp}{s:Shared}{l b:Addr}{xs ys zs:List V}
def Inv.lset {its its':LU}{n:Nat}{f:AV->AV}{t':Nat}(I:Inv X ae σ H s)(g:H l=some (.lst xs))
  (e:s.heap.get? l=some { cls:=.type "list",data:=.seq its.toArray n }) (hf:f its.toArray=its'.toArray) (hv:bc ys its') (hz:ys.length<=sizeLine):
  Inv X ae σ (upd H l (.lst ys)) { s with heap:=s.heap.update l (Obj.mapSeq f),toks:=t' }:=by
 have q:=PySem.IsL.update e f;rw[hf]at q;refine I.write (x:=l) (e:=l) (by rw[g];exact trivial) (.inl rfl) (λb' u hb hu=>(Heap.get?_update_other s.heap (Obj.mapSeq f) (Ne.symm hb)).trans hu) ⟨_,q⟩ ?_;exact⟨hz,its',_,hv,q⟩
def Inv.lnew (I:Inv X ae σ H s)(hv:bc ys its)(hz:ys.length<=sizeLine):
  Inv X ae σ (upd H s.heap.objs.size (.lst ys)) { s with heap:=s.heap.push { cls:=.type "list",data:=.seq its.toArray },toks:=t' } :=
 I.laid (λ_ _ q=>vZ _ q) (vT _) ⟨hz,its,0,hv,vY _ rfl⟩
def Inv.fresh (I:Inv X ae σ H s):H s.heap.objs.size=none:=I.hok.fresh (vT _)
def Inv.lstM (I:Inv X ae σ H s)(g:H l=some (.lst xs)):xs.length<=sizeLine/\∃(its:LU)(n:Nat),bc xs its/\xs.length=its.length/\s.heap.get? l=some { cls:=.type "list",data:=.seq its.toArray n }:=by
 obtain⟨z,its,n,r,e⟩:=I.hok l _ g;exact⟨z,its,n,r,r.length,e⟩
def DR (h:n<=sizeLine):Builtin.List.listTooLong n=false:=by
 unfold Builtin.List.listTooLong;exact decide_eq_false (by omega)
end
section
variable {X:Cx}
def uJ:V->List V->Hp->VK->Prop:=λx vs H Q=>∃l xs y,x=.ref l/\vs=[y]/\H l=some (.lst xs)/\xs.length<sizeLine/\Q .non (upd H l (.lst (xs++[y])))
def nn:Sr X "list.append" uJ:=by
 intro ae s σ H x vs v us Q I G M h;obtain⟨l,xs,y,rfl,rfl,g,hz,q⟩:=h;cases G
 obtain⟨u,rfl,ru⟩:=M.one;obtain⟨z,its,n,r,hl,e⟩:=I.lstM g;refine call_meets F.slot_list_append ⟨_,e,rfl⟩ F.entry_list_append (F.args_list_append_2 _ _) (PySem.list_append l its.toArray n u (by rw[vH];omega)) ⟨e,?_⟩;refine⟨.non,_,I.lset (its':=its++[u]) g e (by simp) (r.append (.cons ru .nil)) ?_,rfl,q⟩;rw[uZ,length_singleton];omega
def Qp:R2:=λx y H Q=>∃l k xs,x=.ref l/\y=.int k/\H l=some (.lst xs)/\-(2 ^ 63)<=k/\k<2 ^ 63/\xs.length*k.toNat<=sizeLine /\
 ∀p,H p=none->Q (.ref p) (upd H p (.lst (List.replicate k.toNat xs).flatten))
def GQ {α:Type}(xs:List α)(k:Nat):(List.replicate k xs).flatten.length=k*xs.length:=by
 induction k with
 |zero=>simp
 |succ k g=>rw[replicate_succ,flatten_cons,uZ,g,Nat.succ_mul,Nat.add_comm]
def KJ:dE X (binaryOp .Mult) Qp:=by
 intro ae s σ H x y v u Q I rx ry h;obtain⟨l,k,xs,rfl,rfl,hH,h1,h2,hz,q⟩:=h;cases rx
 obtain⟨t,rfl⟩:=ry;obtain⟨z,its,n,r,hl,e⟩:=I.lstM hH;have G:its.toArray.size*k.toNat<=sizeLine:=by rw[vH,←hl];exact hz
 have M:¬its.toArray.size*k.toNat > (2 ^ 63 - 1) / 8:=by
  have:(sizeLine:Nat)<=(2 ^ 63 - 1) / 8:=by decide
  omega
 have O:¬(!Builtin.List.listFitsIndex k)=true:=by
  rw[fitsIndex_both h1 h2];exact uX
 have g:¬Builtin.List.listTooLong (its.toArray.size*k.toNat)=true:=by
  rw[DR G];exact uX
 have QY:List.foldl (λx1 x2=>x1++x2) #[] (List.replicate (if its.toArray.isEmpty=true then 0 else k.toNat) its.toArray)=(List.replicate k.toNat its).flatten.toArray:=by
  have f0:∀m:Nat,List.foldl (λx1 x2=>x1++x2) #[] (List.replicate m its.toArray)=(List.replicate m its).flatten.toArray:=λm=>by
   have:=sX its m [];rw[nil_append]at this;exact this
  rw[f0];cases its with
  |nil=>simp
  |cons a r'=>rw[if_neg (by simp)]
 refine wpAny_binaryOp_repeat_ref (T:="list") (U:="int") (by decide) ⟨_,e,rfl⟩ (λs'=>typeIs_int s' k t) noFill_list_mul F.fills_int_mul F.slot_int_rmul repeat_list F.slot_int_index.lookup
  (call_meets F.slot_int_rmul (typeIs_int s k t) F.entry_int_rmul (F.args_int_rmul_2 _ _) (int___rmul___int_list k t l its.toArray n)
   ⟨e,rfl,⟨_,e,rfl⟩,call_meets F.slot_list_mul ⟨_,e,rfl⟩ F.entry_list_mul (F.args_list_mul_2 _ _) (AutoListH.list___mul___list_int_3 l its.toArray n k t O M g) ⟨e,?_⟩⟩)
 rw[QY];exact⟨.ref _,_,I.lnew (t':=s.toks) (r.rep k.toNat) (by rw[GQ,Nat.mul_comm];exact hz),rfl,q _ I.fresh⟩
end
end L2
namespace Att
open PySem PySem.W PySem.Calls PyProof.Rows
def oM:∀(ns:LI)(vs:LU),WellAll P h vs (ns.map WData.int)->IntsAre vs ns:=by
 intro ns;induction ns with
 |nil=>
  intro vs w;rw[map_nil]at w;cases w
  exact .nil
 |cons n ns g=>
  intro vs w;rw[uY]at w;cases w with
  |cons a b=>
   cases a
   exact .cons _ _ (g _ b)
def C3 {l:OpenLaw}{n:Nat}(hn:l.most=some n){P:Params}{h:Heap}{args:List WData}{vals:LU}
  (g:l.row.toRowW.claim.pre args=true) (O:WellAll P h vals args):
  ∃a vs ns,vals=[Value.ref a]/\args=[WData.list (ns.map WData.int)]/\h.get? a=some { cls:=.type "list",data:=.seq vs.toArray }/\IntsAre vs ns/\ns.length<=n:=by
 have T:WShape.hasAll [] args [.list .int]=true:=(pre_splitW g).1;have hc:l.pre.holds [] { args:=args }=true:=(pre_splitW g).2;obtain⟨d,r,rfl,h1,h2⟩:=hasAllW_cons T;obtain rfl:=hasAllW_nil h2;obtain⟨xs,rfl,h3⟩:=hasW_list h1;obtain⟨ns,rfl⟩:=items_int h3;have G:ns.length<=n:=by
  unfold OpenLaw.pre at hc;have h4:(WTm.not (.lt (.lit (.int (n:Int))) (.len (.arg 0)))).holds [] { args:=[.list (ns.map .int)] }=true:=by
   have h4:=(holds_andW hc).1;rw[hn]at h4;exact h4
  have h5:=condW_of h4 (w_not (w_lt w_lit (w_len_list (w_arg rfl))));rw[vI]at h5;refine Nat.le_of_not_lt λq=>?_;have U:(n:Int)<((ns.length:Nat):Int):=by omega
  first
   | (rw[decide_eq_true U]at h5;exact absurd h5 (by decide))
   | (simp at h5;omega)
 cases O with
 |cons w1 w2=>
  cases w2
  cases w1 with
  |list ho M=>exact⟨_,_,ns,rfl,rfl,ho,oM ns _ M,G⟩
def C4 (l:OpenLaw)(args:List WData):l.row.toRowW.claim.post args (.bool true) args=true :=
 postW_of (r:=l.row.toRowW) (X:=(true == true))
  (show WShape.has [] (.bool true) .bool=true by first|rfl|decide|simp[WShape.has,WShape.arms,WShape.armsAll])
  (show(WTm.eq .res (.lit (.bool true))).value [] { args:=args,res:=some (.bool true),after:=args }=some (.bool (true == true))from w_eq_bool (w_res rfl) w_lit) rfl
def xh {l:OpenLaw}{n:Nat}{q:Program}{M:LS}{XP:SV->Heap->Prop}{YP:World->Heap->Prop}{d:DefRec}
  (hn:l.most=some n) (O8:d.params.defaults=[])
  (call:∀(w:World)(s₀ g:Shared)(mg mb:SV)(fa:Addr)(o:Obj)(pm cd doc:Value)(a:Addr)(vs:LU)(ns:LI),
   Ground q M [] XP w s₀ mg mb g.heap->YP w g.heap ->
   g.heap.get? fa=some o->o.data=.func (docDef d.name d.params d.body d.scope pm cd doc)->g.heap.CodeRec cd d.name->mg d.name=some (.ref fa) ->
   g.heap.get? a=some { cls:=.type "list",data:=.seq vs.toArray }->IntsAre vs ns->ns.length<=n->g.gens=#[] ->
   codeAny (model l.prog w) callerA (.call (.ref fa) ⟨[.ref a],[]⟩) (λr s'=>r=.ok (.ret (.bool true))/\OldK g.heap s'.heap/\s'.os=g.os/\AllBare s'.gens) g):
  WalkO q M XP YP l.row.toRowW d [] (λf vs=>PySem.call f vs):=by
 intro w s₀ g mg mb G Y fa o pm cd doc dV kV ho hd Mn hD hmg hg args vals as T hlay hrd hwl hlo;obtain rfl:dV=.none:=Dflts.none hD O8;obtain rfl:kV=.none:=Dflts.noKw hD;obtain⟨a,vs,ns,rfl,rfl,U,O,jP⟩:=C3 hn T hwl;refine enter_call (codeAny_mono (call w s₀ g mg mb fa o pm cd doc a vs ns G Y ho (fd_plain hd) Mn hmg U O jP hg) λr s' hq=>?_);obtain⟨rfl,h2,h3,h4⟩:=hq;exact⟨.inl ⟨.bool true,.bool true,[],rfl,λ_=>rfl,.bool true,C4 l _,λ_=>⟨List.Pairwise.nil,λ_ hm=>(nomatch hm)⟩⟩,h2,h3,h4⟩
section
variable {prog:Program}{w:World}{A:Around}{E:QV}{s:Shared}{K:Frag}
end
end Att
namespace L2
open PySem PySem.Spec PyProof.Rows
theorem fT:∀ {vs:LU}{ns:LI},IntsAre vs ns->bc (ns.map V.int) vs
 |_,_,.nil=>.nil
 |_,_,.cons n t h=>.cons ⟨t,rfl⟩ (fT h)
noncomputable abbrev zE {K:Frag}{h:Heap}(_:K.In h):Frag:=K
noncomputable def gg (s:Stmt):Arguments:=match s with
 |.FunctionDef _ a _ _ _ _ _ _ _ _=>a
 |_=>{ posonlyargs:=[],args:=[],vararg:=none,kwonlyargs:=[],kw_defaults:=[],kwarg:=none,defaults:=[] }
noncomputable def cD (s:Stmt):List Stmt:=match s with
 |.FunctionDef _ _ b _ _ _ _ _ _ _=>b
 |_=>[]
noncomputable def aQ (s:Stmt):Scope:=match s with
 |.FunctionDef _ _ _ _ _ _ sc _ _ _=>sc
 |_=>{ kind:=.function,names:=[],isGenerator:=false,isCoroutine:=false }
abbrev zl:Jl:=λ_ _ _ _ _ _=>False
abbrev E0:XK:=λ_ _ _=>False
def N6:z6 zl X E0:=λ_ _ _ _ _ _ _ h=>h.elim
structure Mo (K:Frag)(x qual:Str)(st:Stmt)(f:Addr)(fd:FuncData):Prop where
 ex:∃(oc:Value)(od:Option Addr)(kV doc pm:Value)(an:Option Addr)(eN ct:Value)(oJ:Array (Option Value)),
  fd=fnOf x qual (gg st) (cD st) (aQ st) .none kV doc pm an eN ct/\K.lookup f=some ⟨oc,od,.func fd,oJ⟩/\PySem.W.codeIn K eN qual=true
 kp:PySem.W.keepIn K (.ref f)=true
section
variable {P:Program}{w:World}{K:Frag}{mg:SV}{base:Heap}
def Mo.ok {x qual:Str}{st:Stmt}{f:Addr}{fd:FuncData}{N ps:LS}{k:Nat}{sp:Sp}(F:Mo K x qual st f fd)(S:FnScope N ps (aQ st))(len:∀vs H Q E,sp vs H Q E->vs.length=ps.length)
  (g:∀(eN:Value)(A:Around)(outer:List Env)(s:Shared)(H:Hp)(vs:List V)(Q:VK)(E:XK),eW k (A.deeper (envOfC qual (aQ st) s.heap.objs.size f eN))->sp vs H Q E ->
   ∃t,u0 (oK zl P w K mg base N qual (aQ st) f eN A outer s H E).nox (cD st) t/\t { nx:=λ_ H'=>Q .non H',rt:=Q } (jL N vs) H):sK P w K mg base zl (k+1) f fd ps sp:=by
 obtain⟨oc,od,kV,doc,pm,an,eN,ct,oJ,rfl,O,G⟩:=F.ex;refine Jm O G S len λA outer s H vs Q E T M=>?_;obtain⟨t,h,q⟩:=g eN A outer s H vs Q E T M;exact⟨t,h.nox,q⟩
def Mo.binds {x qual:Str}{st:Stmt}{f:Addr}{fd:FuncData}{ps:LS}(F:Mo K x qual st f fd)
  (h:∀(kV doc pm:Value)(an:Option Addr)(eN ct:Value)(us:LU),us.length=ps.length->bindArgs (fnOf x qual (gg st) (cD st) (aQ st) .none kV doc pm an eN ct) ⟨us,[]⟩=pure (ps.zip us)):sQ K fd ps []:=by
 obtain⟨oc,od,kV,doc,pm,an,eN,ct,oJ,rfl,G,g⟩:=F.ex;exact .all (h kV doc pm an eN ct)
def KN {x qual:Str}{st:Stmt}{f:Addr}{oc:Value}{od an:Option Addr}{oJ:Array (Option Value)}{kV doc pm eN ct:Value}(l:K.lookup f=some ⟨oc,od,.func (fnOf x qual (gg st) (cD st) (aQ st) .none kV doc pm an eN ct),oJ⟩)
  (c:PySem.W.codeIn K eN qual=true) (k:PySem.W.keepIn K (.ref f)=true):Mo K x qual st f (fnOf x qual (gg st) (cD st) (aQ st) .none kV doc pm an eN ct):=⟨⟨oc,od,kV,doc,pm,an,eN,ct,oJ,rfl,l,c⟩,k⟩
end
def aW (H H':Hp):Prop:=∀b o,H b=some o->H' b=some o
def aW.refl (H:Hp):aW H H:=λ_ _ h=>h
def aW.trans (a:aW H H1)(b:aW H1 H2):aW H H2:=λc o h=>b c o (a c o h)
def aW.free (e:aW H H')(h:H' l=Option.none):H l=Option.none:=by
 cases q:H l with
 |none=>rfl
 |some o=>
  rw[e l o q]at h;cases h
def aW.seq {K:Frag}{H H':Hp}{a:Addr}{xs:List V}(e:aW H H')(h:gP K H a xs):gP K H' a xs:=by
 rcases h with (h|⟨o,h⟩)|h
 ·exact .inl (.inl (e _ _ h))
 ·exact .inl (.inr ⟨o,e _ _ h⟩)
 ·exact .inr h
section
variable {κ:Type}[DecidableEq κ]
noncomputable def jO (aG:List (κ×V))(k:κ):Option V:=(aG.find? λkv=>decide (kv.1=k)).map (·.2)
def lW (aG:List (κ×V))(k:κ)(v:V):List (κ×V) :=
 if(aG.any λkv=>decide (kv.1=k))=true then aG.map (λkv=>if kv.1=k then (kv.1,v)else kv)else aG++[(k,v)]
noncomputable def Jo (aG:List (κ×V))(k:κ):List (κ×V):=aG.filter λkv=>decide (kv.1≠k)
def lX {p:κ×V}{r:List (κ×V)}{k:κ}(e:p.1=k):jO (p::r) k=some p.2:=by simp[jO,find?_cons,e]
def lY {p:κ×V}{r:List (κ×V)}{k:κ}(e:¬p.1=k):jO (p::r) k=jO r k:=by simp[jO,find?_cons,e]
theorem xi (k:κ):∀aG:List (κ×V),(aG.any λkv=>decide (kv.1=k))=(jO aG k).isSome
 |[]=>rfl
 |p::r=>by
  rw[any_cons];by_cases e:p.1=k
  ·simp only[lX e,decide_eq_true e,Bool.true_or,Option.isSome_some]
  ·rw[lY e,decide_eq_false e,Bool.false_or];exact xi k r
def jR (aG:List (κ×V))(k:κ)(v:V):(lW aG k v).length<=aG.length+1:=by
 unfold lW;split
 ·rw[vI];omega
 ·rw[uZ,vE,length_nil];omega
def kZ.isSome_eq (r:kZ o u):o.isSome=u.isSome:=by
 cases o with
 |none=>cases u with
  |none=>rfl
  |some _=>exact(show False from r).elim
 |some _=>cases u with
  |none=>exact(show False from r).elim
  |some _=>rfl
def kZ.getD (r:kZ o u)(g:aU d d'):aU (o.getD d) (u.getD d'):=by
 cases o with
 |none=>cases u with
  |none=>exact g
  |some _=>exact(show False from r).elim
 |some _=>cases u with
  |none=>exact(show False from r).elim
  |some _=>exact r
def KV.val {aG:List (κ×V)}{vs:List (κ×Value)}(r:KV aG vs)(k:κ):kZ (jO aG k) (valueAt vs k):=by
 unfold KV at r;induction r with
 |nil=>exact True.intro
 |@cons p q ps g h t M=>
  obtain⟨h1,h2⟩:=h;by_cases e:p.1=k
  ·have G:q.1=k:=h1.symm.trans e;have b:valueAt (q::g) k=some q.2:=by simp[valueAt,find?_cons,G]
   rw[lX e,b];exact h2
  ·have G:¬q.1=k:=λz=>e (h1.trans z);have b:valueAt (q::g) k=valueAt g k:=by simp[valueAt,find?_cons,G]
   rw[lY e,b];exact M
def KV.any (r:KV aG vs)(k:κ):(aG.any λkv=>decide (kv.1=k))=vs.any λkv=>decide (kv.1=k):=by
 unfold KV at r;induction r with
 |nil=>rfl
 |cons h t g=>rw[any_cons,any_cons,g,h.1]
def KV.repl (r:KV aG vs)(k:κ)(g:aU y u):
  KV (aG.map λkv=>if kv.1=k then (kv.1,y)else kv) (vs.map λkv=>if kv.1=k then (kv.1,u)else kv):=by
 unfold KV at r ⊢;induction r with
 |nil=>exact .nil
 |@cons p q ps M h t G=>
  rw[uY,uY];refine .cons ?_ G;obtain⟨h1,h2⟩:=h;by_cases e:p.1=k
  ·rw[if_pos e,if_pos (h1.symm.trans e)];exact⟨h1,g⟩
  ·rw[if_neg e,if_neg (λz=>e (h1.trans z))];exact⟨h1,h2⟩
def KV.put (r:KV aG vs)(k:κ)(g:aU y u):KV (lW aG k y) (stored vs k u):=by
 unfold lW stored;rw[r.any k];by_cases e:(vs.any λkv=>decide (kv.1=k))=true
 ·rw[if_pos e,if_pos e];exact r.repl k g
 ·rw[if_neg e,if_neg e];exact Paired.snoc r ⟨rfl,g⟩
def KV.drop (r:KV aG vs)(k:κ):KV (Jo aG k) (without vs k):=by
 unfold KV at r ⊢;unfold Jo without;induction r with
 |nil=>exact .nil
 |@cons p q ps M h t g=>
  obtain⟨h1,h2⟩:=h;rw[filter_cons,filter_cons];by_cases e:p.1=k
  ·have a:¬decide (p.1≠k)=true:=by simp[e]
   have b:¬decide (q.1≠k)=true:=by simp[h1.symm.trans e]
   rw[if_neg a,if_neg b];exact g
  ·have G:¬q.1=k:=λz=>e (h1.trans z);have a:decide (p.1≠k)=true:=by simp[e]
   have b:decide (q.1≠k)=true:=by simp[G]
   rw[if_pos a,if_pos b];exact .cons ⟨h1,h2⟩ g
def KV.keys {aG:List (κ×V)}{vs:List (κ×Value)}(r:KV aG vs):aG.map (·.1)=vs.map (·.1):=by
 unfold KV at r;induction r with
 |nil=>rfl
 |cons h t g=>rw[uY,uY,g,h.1]
def KV.length (r:KV aG vs):aG.length=vs.length:=Paired.length r
end
def pF (r:aU (kV k) u):(cq P w).is k u=true:=by
 cases k with
 |inl i=>obtain⟨t,e⟩:=(show ∃t,u=Value.int i t from r);subst e;exact wT P w i t
 |inr x=>obtain⟨t,e⟩:=(show ∃t,u=Value.str x t from r);subst e;exact wU P w x t
theorem sY:∀ {ks:List dD}{us:LU},bc (ks.map kV) us->ItemsAre (cq P w) ks us
 |[],_,r=>by rw[map_nil]at r;cases r;exact .nil
 |k::ks,_,r=>by
  rw[uY]at r;cases r with
  |cons h t=>exact .cons (pF h) (sY t)
abbrev KT (H:Hp):List (List dD×V)->List (List dD×Addr×Value)->Prop:=Paired λp q=>p.1=q.1/\H q.2.1=some (.tup (p.1.map kV))/\aU p.2 q.2.2
def KT.val {H:Hp}{aG:List (List dD×V)}{xs:List (List dD×Addr×Value)}(r:KT H aG xs)(k:List dD):kZ (jO aG k) ((atKey xs k).map (·.2)):=by
 induction r with
 |nil=>exact True.intro
 |@cons p q ps g h t M=>
  obtain⟨h1,_,h2⟩:=h;by_cases e:p.1=k
  ·have G:q.1=k:=h1.symm.trans e;have b:atKey (q::g) k=some q.2:=by simp[atKey,find?_cons,G]
   rw[lX e,b];exact h2
  ·have G:¬q.1=k:=λz=>e (h1.trans z);have b:atKey (q::g) k=atKey g k:=by simp[atKey,find?_cons,G]
   rw[lY e,b];exact M
def KT.repl (r:KT H aG xs)(k:List dD)(g:aU y u):
  KT H (aG.map λkv=>if kv.1=k then (kv.1,y)else kv) (xs.map (putAt k u)):=by
 induction r with
 |nil=>exact .nil
 |@cons p q ps M h t G=>
  rw[uY,uY];refine .cons ?_ G;obtain⟨h1,h2,h3⟩:=h;unfold putAt;by_cases e:p.1=k
  ·rw[if_pos e,if_pos (h1.symm.trans e)];exact⟨h1,h2,g⟩
  ·rw[if_neg e,if_neg (λz=>e (h1.trans z))];exact⟨h1,h2,h3⟩
def KT.put (r:KT H aG xs)(k:List dD)(hb:H b=some (.tup (k.map kV)))(g:aU y u):
  KT H (lW aG k y) (storedH xs k b u):=by
 have e:(aG.any λkv=>decide (kv.1=k))=(atKey xs k).isSome:=by
  rw[xi,(r.val k).isSome_eq,isSome_map]
 unfold lW storedH;rw[e];by_cases q:(atKey xs k).isSome=true
 ·rw[if_pos q,if_pos q];exact r.repl k g
 ·rw[if_neg q,if_neg q];exact Paired.snoc r ⟨rfl,hb,g⟩
def KT.keeps (r:KT H aG xs)(g:∀b ys,H b=some (.tup ys)->H' b=some (.tup ys)):KT H' aG xs :=
 Paired.mapP r λ_ _ z=>⟨z.1,g _ _ z.2.1,z.2.2⟩
section
variable {P:Program}{w:World}{H:Hp}{h:Heap}{a:Addr}
def Jp (ok:la P w H h)(e:Rd H a u):bO P w H h a u:=e.ok ok
def zF (ok:la P w H h)(e:H a=some (.dK aG ob)):h.get? a=some ob:=And.left (show bO P w H h a (.dK aG ob)from ok a _ e)
def pG (ok:la P w H h)(e:Rd H a (.dK aG ob)):aG.length<=sizeLine/\(a == sysModules)=false/\∃vs,KV aG vs/\h.DictOf (cq P w) a vs :=
 And.right (show bO P w H h a (.dK aG ob)from Jp ok e)
def oe (ok:la P w H h)(e:H a=some (.dK aG ob)):aG.length<=sizeLine/\(a == sysModules)=false/\∃vs,KV aG vs/\h.DictOf (cq P w) a vs:=pG ok (.inl e)
def no (ok:la P w H h)(e:H a=some (.tup (ks.map kV))):(tupleKind (cq P w)).is h ks a:=by
 obtain⟨_,its,r,o,h1,h2,n,h3⟩:=(show bO P w H h a (.tup (ks.map kV))from ok a _ e);exact⟨o,its.toArray,n,h1,h2,h3,by simpa using sY r⟩
def pH (ok:la P w H h)(e:Rd H a (.dT aG)):aG.length<=sizeLine/\(a == sysModules)=false /\
  ∃xs,KT H aG xs/\h.DictOfH (tupleKind (cq P w)) a xs:=by
 obtain⟨z,y,xs,r,o,es,g,h1,h2,h3,h4,h5⟩:=(show bO P w H h a (.dT aG)from Jp ok e);refine⟨z,y,xs,r,o,es,g,h1,h2,h3,h4,λx hx=>?_,h5⟩;have all:∀ {l:List (List dD×V)}{m:List (List dD×Addr×Value)},KT H l m->∀x∈m,(tupleKind (cq P w)).is h x.1 x.2.1:=by
  intro l m q;induction q with
  |nil=>intro x hx;exact nomatch hx
  |@cons p q ps M hq t G=>
   intro x hx;rcases vP hx with e|hx
   ·subst e;exact no ok (by rw[←hq.1];exact hq.2.1)
   ·exact G x hx
 exact all r x hx
def N7 (ok:la P w H h)(e:H a=some (.dT aG)):aG.length<=sizeLine/\(a == sysModules)=false /\
  ∃xs,KT H aG xs/\h.DictOfH (tupleKind (cq P w)) a xs:=pH ok (.inl e)
end
def pJ (H:Hp)(a:Addr)(y:V)(r:Option V):Prop :=
 (∃aG k ob,Rd H a (.dK aG ob)/\y=kV k/\r=jO aG k)∨∃aG k b,Rd H a (.dT aG)/\y=.ref b/\H b=some (.tup (k.map kV))/\r=jO aG k
def NA (H:Hp)(a:Addr)(y v:V)(Q:Hp->Prop):Prop :=
 (∃aG k ob,H a=some (.dK aG ob)/\y=kV k/\aG.length<sizeLine/\∀g,Q (upd H a (.dK (lW aG k v) g))) ∨
 ∃aG k b,H a=some (.dT aG)/\y=.ref b/\H b=some (.tup (k.map kV))/\aG.length<sizeLine/\Q (upd H a (.dT (lW aG k v)))
def pJ.t (e:H a=some (.dT aG))(g:H b=some (.tup (k.map kV))):pJ H a (.ref b) (jO aG k):=.inr ⟨aG,k,b,.inl e,rfl,g,rfl⟩
section
variable {X:Cx}{ae:AO}{σ:St}{H:Hp}{s:Shared}{a:Addr}{y v:V}{u r:Value}{o:Option V}{A:Around}{E:QV}
def Inv.big (I:Inv X ae σ H s):sysModules<s.heap.objs.size:=by
 have h:mainGlobals<s.heap.objs.size:=(I.mod.glob.keeps I.bk).lt;exact Nat.lt_trans (by decide) h
def C5 (hu:A.units+1<cLine)(I:Inv X ae σ H s)(g:pJ H a y (some v))(ry:aU y u)(h:∀O s',Inv X ae σ H s'->aU v O->Q O s'):
  wpAny (model X.prog X.w) A (getItem (.ref a) u) Q E s:=by
 rcases g with⟨aG,k,ob,e,T,l⟩|⟨aG,k,b,e,T,eb,l⟩
 ·subst T;obtain⟨z,hd,vs,G,dd⟩:=pG I.hok e;obtain⟨O,hw,M⟩:=kZ.some_of (v:=v) (o:=valueAt vs k) (by rw[l];exact G.val k);exact wpAny_getItem_of (pF ry) dd.mapOf hw (h O _ (I.tok _) M)
 ·subst T;cases (show u=Value.ref b from ry)
  obtain⟨z,hd,xs,G,dd⟩:=pH I.hok e;obtain⟨O,hw,M⟩:=kZ.some_of (v:=v) (o:=(atKey xs k).map (·.2)) (by rw[l];exact G.val k);obtain⟨p,hp,U⟩:=oY hw;refine wpAny_getItem_heap (tupleKind_room_in1 hu) (no I.hok eb) dd hp ?_;rw[U];exact h O _ (I.tok _) M
def Qr (hu:A.units+1<cLine)(I:Inv X ae σ H s)(g:pJ H a y o)(O:aU y u)(h:∀s',Inv X ae σ H s'->Q (.bool o.isSome) s'):
  wpAny (model X.prog X.w) A (compareOp .In u (.ref a)) Q E s:=by
 rcases g with⟨aG,k,ob,e,M,l⟩|⟨aG,k,b,e,M,T,l⟩
 ·subst M;obtain⟨z,hd,vs,G,dd⟩:=pG I.hok e;refine wpAny_in_of (pF O) hd dd.mapOf ?_;rw[←(G.val k).isSome_eq,←l];exact h _ (I.tok _)
 ·subst M;cases (show u=Value.ref b from O)
  obtain⟨z,hd,xs,G,dd⟩:=pH I.hok e;refine wpAny_in_heap (tupleKind_room_in1 hu) (no I.hok T) hd dd ?_;have q:=(G.val k).isSome_eq;rw[isSome_map]at q;rw[←q,←l];exact h _ (I.tok _)
def GR (hu:A.units+1<cLine)(I:Inv X ae σ H s)(g:pJ H a y o)(O:aU y u)(h:∀s',Inv X ae σ H s'->Q (.bool (!o.isSome)) s'):
  wpAny (model X.prog X.w) A (compareOp .NotIn u (.ref a)) Q E s:=by
 rcases g with⟨aG,k,ob,e,M,l⟩|⟨aG,k,b,e,M,T,l⟩
 ·subst M;obtain⟨z,hd,vs,G,dd⟩:=pG I.hok e;refine wpAny_notIn_of (pF O) hd dd.mapOf ?_;rw[←(G.val k).isSome_eq,←l];exact h _ (I.tok _)
 ·subst M;cases (show u=Value.ref b from O)
  obtain⟨z,hd,xs,G,dd⟩:=pH I.hok e;refine wpAny_notIn_heap (tupleKind_room_in1 hu) (no I.hok T) hd dd ?_;have q:=(G.val k).isSome_eq;rw[isSome_map]at q;rw[←q,←l];exact h _ (I.tok _)
def uK (I:Inv X ae σ H s)(g:MP (H a))(hs:Heap.SameBut a s.heap h')(he:∃q,h'.get? a=some q)(new:bO X.prog X.w (upd H a ob) h' a ob):
  Inv X ae σ (upd H a ob) { s with heap:=h',toks:=t' } :=
 I.write (x:=a) (e:=a) g (.inl rfl) (λb q hb z=>(hs.2 b hb).trans z) he new
def DS (z:aG.length<=sizeLine)(hd:(a == sysModules)=false)(g:KV aG vs)(dd:h'.DictOf (cq P w) a vs)(G:h'.get? a=some ob):
  bO P w H' h' a (.dK aG ob):=⟨G,z,hd,vs,g,dd⟩
def C6 (hu:A.units+1<cLine)(I:Inv X ae σ H s)(g:NA H a y v R)(U:aU y u)(rv:aU v r)(h:∀H' s',R H'->Inv X ae σ H' s'->Q () s'):
  wpAny (model X.prog X.w) A (setItem (.ref a) u r) Q E s:=by
 rcases g with⟨aG,k,ob,e,O,l,T⟩|⟨aG,k,b,e,O,eb,l,T⟩
 ·subst O;obtain⟨z,hd,vs,G,dd⟩:=oe I.hok e;have hz:vs.length<=sizeLine:=by rw[←G.length];exact z
  have hl:(lW aG k v).length<=sizeLine:=by have:=jR aG k v;omega
  refine wpAny_setItem_pairs (hsz:=hz) (pF U) dd λh' M hs=>?_;obtain⟨q,hq⟩:∃q,h'.get? a=some q:=let ⟨q,_,_,hq,_⟩:=M;⟨q,hq⟩;exact h _ _ (T q) (uK I (by rw[e];exact True.intro) hs ⟨q,hq⟩ (DS hl hd (G.put k rv) M hq))
 ·subst O;cases (show u=Value.ref b from U)
  obtain⟨z,hd,xs,G,dd⟩:=N7 I.hok e;have hz:xs.length<=sizeLine:=by rw[←Paired.length G];exact z
  have hl:(lW aG k v).length<=sizeLine:=by have:=jR aG k v;omega
  refine wpAny_setItem_heap (hsz:=hz) (tupleKind_room_in1 hu) (no I.hok eb) dd λh' M hs=>h _ _ T ?_;obtain⟨q,es,ep,hq,h2,h3,h4,_,h5⟩:=M;refine uK I (by rw[e];exact True.intro) hs ⟨q,hq⟩ ⟨hl,hd,_,(G.put k eb rv).keeps λc ys ec=>?_,q,es,ep,hq,h2,h3,h4,h5⟩;rw[aJ (MO ec e (λz=>nomatch z))];exact ec
end
def KO (i:Expr):Prop:=∀g iv,subscripted i false g iv=operate [g,iv] (getItem g iv)
def GS {prog:Program}{w:World}{A:Around}{E:QV}{s:Shared}{env:Env}{G g:Expr}{pos:Pos}{T id:String}{Q:QV}
  (hl:typeLookup (.type T) "__getitem__" = pure (some (.builtin id))) (hs:KO g)
  (h:wpAny (model prog w) A (eval G env) (λo U=>wpAny (model prog w) A (eval g env) (λi M=>M.TypeIs o T/\wpAny (model prog w) A (getItem o i) Q E M) E U) E s):
  wpAny (model prog w) A (eval (.Subscript G g pos) env) Q E s:=by
 refine Subscript_ (wpAny_mono h (λo U h₁=>wpAny_mono h₁ (λi M O=>?_) λ_ _ x=>x) λ_ _ x=>x);obtain⟨hT,O⟩:=O;unfold subscriptTail;refine wX ?_;rw[getitemInPython_of_ne hT.not_modules];refine wX (wpAny_specialOf hT hl ?_);have iC:wpAny (model prog w) A (subscripted g false o i) (λr s₃=>wpAny (model prog w) A (letTemporaryGo G o r>>=λ_=>pure r) Q E s₃) E M:=by
  rw[hs o i];exact wpAny_operating (wpAny_mono O (λr s₃ h₃=>wX (wpAny_letTemporaryGo (wY h₃))) λ_ _ x=>x)
 first
  |exact wY (wX iC)
  |exact wX (wY (wX iC))
  |exact wX iC
def xj (I:Inv X ae σ H s)(g:pJ H a y o):s.TypeIs (.ref a) "dict":=by
 rcases g with⟨aG,k,G,e,_,_⟩|⟨aG,k,b,e,_,_,_⟩
 ·obtain⟨_,_,vs,_,dd⟩:=pG I.hok e;exact dd.typeIs
 ·obtain⟨_,_,xs,_,dd⟩:=pH I.hok e;exact dd.typeIs
def NB (g ty:TE):TE:=λσ H Q=>g σ H λx G=>ty σ G λy H2=>∃a v,x=.ref a/\pJ H2 a y (some v)/\Q v H2
def Qs (ty g:TE):TE:=λσ H Q=>ty σ H λy G=>g σ G λx H2=>∃a o,x=.ref a/\pJ H2 a y o/\Q (.bl o.isSome) H2
def GU (ty g:TE):TE:=λσ H Q=>ty σ H λy G=>g σ G λx H2=>∃a o,x=.ref a/\pJ H2 a y o/\Q (.bl (!o.isSome)) H2
def AD (g ty G:TE):TS:=λD σ H=>G σ H λv M=>g σ M λx H2=>ty σ H2 λy O=>∃a,x=.ref a/\NA O a y v (D.nx σ)
section
variable {X:Cx}{o i e value:Expr}{pos Ge Ml:Pos}{td ty tv:TE}
def GV (hu:X.A.units+1<cLine)(O:PE X o td)(hi:PE X i ty)(hs:KO i):PE X (.Subscript o i pos) (NB td ty):=by
 intro ae s σ H Q I h;refine GS PySem.F.slot_dict_getitem.lookup hs (c8 (O ae s σ H _ I h) λu s1 ⟨x,T,U,rx,q1⟩=>c8 (hi ae s1 σ T _ U q1) λiv s2 ⟨y,H2,M,ry,a,v,ex,g,q2⟩=>?_);subst ex;obtain rfl:u=Value.ref a:=rx;exact⟨xj M g,C5 hu M g ry λw' s3 I3 G=>⟨v,H2,I3,G,q2⟩⟩
def KP (hu:X.A.units+1<cLine)(hi:PE X i ty)(G:PE X o td):PC X .In i o (Qs ty td):=by
 intro ae s σ H Q I h;refine c8 (hi ae s σ H _ I h) λiv s1 ⟨y,M,O,T,U⟩=>c8 (G ae s1 σ M _ O U) λu s2 ⟨x,H2,I2,rx,a,ov,ex,g,q2⟩=>?_;subst ex;obtain rfl:u=Value.ref a:=rx;exact Qr hu I2 g T λs3 I3=>⟨.bl ov.isSome,H2,I3,rfl,q2⟩
def C7 (hu:X.A.units+1<cLine)(hi:PE X i ty)(G:PE X o td):PC X .NotIn i o (GU ty td):=by
 intro ae s σ H Q I h;refine c8 (hi ae s σ H _ I h) λiv s1 ⟨y,M,O,T,U⟩=>c8 (G ae s1 σ M _ O U) λu s2 ⟨x,H2,I2,rx,a,ov,ex,g,q2⟩=>?_;subst ex;obtain rfl:u=Value.ref a:=rx;exact GR hu I2 g T λs3 I3=>⟨.bl (!ov.isSome),H2,I3,rfl,q2⟩
def uL (hu:X.A.units+1<cLine)(G:PE X o td)(hi:PE X i ty)(hv:PE X value tv)(hs:swapsWith value (some (.Subscript o i Ge)) pos.line X.env=pure false):
  PS X (.Assign [.Subscript o i Ge] value pos) (AD td ty tv):=by
 intro ae s σ H D I h;refine wpAny_Assign_Subscript (c8 (hv ae s σ H _ I h) λr s1 ⟨v,M,O,T,U⟩=>c8 (G ae s1 σ M _ O U) λu s2 ⟨x,H2,I2,rx,q2⟩=>c8 (hi ae s2 σ H2 _ I2 q2) λiv s3 ⟨y,H3,I3,ry,a,ex,g⟩=>?_) hs;subst ex;obtain rfl:u=Value.ref a:=rx;exact C6 hu I3 g ry T λH4 s4 q3 I4=>⟨σ,H4,I4,q3⟩
end
def xl (h:Heap)(hb:sysModules<h.objs.size):bO P w H (h.push { cls:=.type "dict",data:=.dict #[] }) h.objs.size (.dK [] { cls:=.type "dict",data:=.dict #[] }) :=
 ⟨vY _ rfl,uN _,beq_eq_false_iff_ne.mpr (Ne.symm (vS hb)),[],.nil,Heap.DictOf.new h⟩
def DT (h:Heap)(hb:sysModules<h.objs.size):bO P w H (h.push { cls:=.type "dict",data:=.dict #[] }) h.objs.size (.dT []) :=
 ⟨uN _,beq_eq_false_iff_ne.mpr (Ne.symm (vS hb)),[],.nil,_,#[],0,vY _ rfl,⟨rfl,rfl,rfl⟩,rfl,rfl,nodup_nil⟩
def DU:TE:=λ_ H Q=>∀p ob,H p=none->Q (.ref p) (upd H p (.dK [] ob))
def DV:TE:=λ_ H Q=>∀p,H p=none->Q (.ref p) (upd H p (.dT []))
section
variable {X:Cx}{pos:Pos}
def DW:PE X (.Dict [] [] pos) DU:=λae s σ H Q I h=>
 wpAny_Dict_empty ⟨.ref s.heap.objs.size,_,I.laid (a:=s.heap.objs.size) (o:=.dK [] { cls:=.type "dict",data:=.dict #[] }) (t':=s.toks) (λ_ _ q=>vZ _ q) (vT _) (xl s.heap I.big),rfl,h _ _ (I.hok.fresh (vT _))⟩
def DX:PE X (.Dict [] [] pos) DV:=λae s σ H Q I h=>
 wpAny_Dict_empty ⟨.ref s.heap.objs.size,_,I.laid (a:=s.heap.objs.size) (o:=.dT []) (t':=s.toks) (λ_ _ q=>vZ _ q) (vT _) (DT s.heap I.big),rfl,h _ (I.hok.fresh (vT _))⟩
end
structure M1 (X:Cx)(o:Expr)(m:Str)(cG:Pos)(e:Expr)(bR:Pos):Prop where
 base:attributeBase o m X.env (eval o X.env)=eval o X.env
 few:((backTo bR (starEach [e] X.env)).all (λx=>!x.1) && (backToKw bR (keywordEach [] X.env)).all (λx=>x.1.isSome)
  && decide (([e]:List Expr).length+([]:List Keyword).length+(if([]:List Keyword).isEmpty then 0 else 1)<30))=true
 line:(cG.endLine == bR.line)=true
 trees:backTo bR (starEach [e] X.env)=[(false,eval e X.env)]
def Ss (H:Hp)(a:Addr):Prop:=(∃aG ob,Rd H a (.dK aG ob))∨∃aG,Rd H a (.dT aG)
def KQ (I:Inv X ae σ H s)(d:Ss H a):
  s.TypeIs (.ref a) "dict"/\(∀b,Value.ref a=.ref b->∃ob,s.heap.get? b=some ob/\ob.dict=none)/\(a == sysModules)=false:=by
 rcases d with⟨aG,g,e⟩|⟨aG,e⟩
 ·obtain⟨_,hd,vs,_,dd⟩:=pG I.hok e;refine⟨dd.typeIs,λb q=>?_,hd⟩;cases q
  obtain⟨ob,_,_,h1,h2,_⟩:=dd;exact⟨ob,h1,h2.2.1⟩
 ·obtain⟨_,hd,xs,_,dd⟩:=pH I.hok e;refine⟨dd.typeIs,λb q=>?_,hd⟩;cases q
  obtain⟨ob,_,_,h1,h2,_⟩:=dd;exact⟨ob,h1,h2.2.1⟩
section
variable {X:Cx}{ae:AO}{σ:St}{H:Hp}{s:Shared}{a:Addr}{y d:V}{u r:Value}{o:Option V}{A:Around}{E:QV}
def KR (hu:A.units+1<cLine)(I:Inv X ae σ H s)(g:pJ H a y o)(O:aU y u)(h:∀T s',Inv X ae σ H s'->aU (o.getD .non) T->Q T s'):
  wpAny (model X.prog X.w) A (call (.builtin "dict.get") [.ref a,u]) Q E s:=by
 rcases g with⟨aG,k,ob,e,M,l⟩|⟨aG,k,b,e,M,U,l⟩
 ·subst M;obtain⟨z,hd,vs,G,dd⟩:=pG I.hok e;refine call_meetsIn slot_dict_get dd.typeIs entry_dict_get (PySem.F.args_dict_get_2 _ _) (meets_dict_get (cq X.prog X.w) a (pF O) hd) ⟨_,dd.mapOf,h _ _ (I.tok _) ?_⟩;rw[l];exact(G.val k).getD rfl
 ·subst M;cases (show u=Value.ref b from O)
  obtain⟨z,hd,xs,G,dd⟩:=pH I.hok e;refine call_meetsIn slot_dict_get dd.typeIs entry_dict_get (PySem.F.args_dict_get_2 _ _) (meetsH_dict_get (tupleKind (cq X.prog X.w)) a b hd) ⟨tupleKind_room_in1 hu,k,xs,no I.hok U,dd,h _ _ (I.tok _) ?_⟩;rw[l];exact(G.val k).getD rfl
end
def KS (G ty:TE):TE:=λσ H Q=>G σ H λx g=>∃a,x=.ref a/\Ss g a/\ty σ g λy H2=>∃o,pJ H2 a y o/\Q (o.getD .non) H2
section
variable {X:Cx}{o e f:Expr}{cG bR:Pos}{td ty tx:TE}
def xm (hu:X.A.units+1<cLine)(O:PE X o td)(he:PE X e ty)(m:M1 X o "get" cG e bR):PE X (.Call (.Attribute o "get" cG) [e] [] bR) (KS td ty):=by
 intro ae s σ H Q I h;refine wpAny_Call_method m.base m.few m.line plainAttrs_dict slot_dict_get PySem.F.type_dict_get (c8 (O ae s σ H _ I h) λu s1 ⟨x,T,M,U,a,ex,d,q1⟩=>?_);subst ex;obtain rfl:u=Value.ref a:=U;obtain⟨t1,t2,_⟩:=KQ M d;refine⟨t1,t2,?_⟩;rw[m.trees];refine Calls.callWith_builtin rfl (Calls.evalArgs_plain (Calls.spliced_cons (c8 (he ae s1 σ T _ M q1) λiv s2 ⟨y,H2,I2,ry,ov,g,q2⟩=>Calls.spliced_nil ?_)));exact KR hu I2 g ry λw' s3 I3 G=>⟨_,H2,I3,G,q2⟩
end
end L2
namespace DL
open PySem L2
set_option linter.all false
abbrev St:=L2.St
inductive D where
 |non|bl (b:Bool)|int (i:Int)|str (x:Str)|ty (n:String)|tup (ds:List D)|lst (ds:List D)
  |dk (ks:List dD) (vs:List D)|dt (ks:List (List dD)) (vs:List D)
abbrev LD:=List D
abbrev LV:=List V
abbrev LK:=List dD
abbrev OB:=Option (D×Bool)
mutual
inductive Is (K:Frag)(H:Hp):V->D->Prop where
 |non:Is K H .non .non
 |bl (b:Bool):Is K H (.bl b) (.bl b)
 |int (i:Int):Is K H (.int i) (.int i)
 |str (x:Str):Is K H (.str x) (.str x)
 |ty (n:String):Is K H (.ty n) (.ty n)
 |tup {a:Addr}{vs:List V}{ds:List D}(h:jc K H a vs) (hs:IsL K H vs ds):Is K H (.ref a) (.tup ds)
 |lst {a:Addr}{vs:List V}{ds:List D}(h:gP K H a vs) (hs:IsL K H vs ds):Is K H (.ref a) (.lst ds)
 |dk {a:Addr}{ks:List dD}{vs:List V}{ds:List D}{ob:Obj}(h:H a=some (.dK (ks.zip vs) ob)) (hl:ks.length=vs.length) (hs:IsL K H vs ds):Is K H (.ref a) (.dk ks ds)
 |dt {a:Addr}{ks:List (List dD)}{vs:List V}{ds:List D}(h:H a=some (.dT (ks.zip vs))) (hl:ks.length=vs.length) (hs:IsL K H vs ds):Is K H (.ref a) (.dt ks ds)
inductive IsL (K:Frag)(H:Hp):List V->List D->Prop where
 |nil:IsL K H [] []
 |cons {v:V}{d:D}{vs:List V}{ds:List D}(h:Is K H v d) (hs:IsL K H vs ds):IsL K H (v::vs) (d::ds)
end
mutual
def bg:D->Bool
 |.lst _=>false
 |.dk _ _=>false
 |.dt _ _=>false
 |.tup ds=>b8 ds
 |_=>true
def b8:LD->Bool
 |[]=>true
 |d::ds=>bg d && b8 ds
end
@[simp] def M3:bg .non=true:=by simp only[bg]
@[simp] def NC (b:Bool):bg (.bl b)=true:=by simp only[bg]
@[simp] def M4 (i:Int):bg (.int i)=true:=by simp only[bg]
@[simp] def M5 (x:Str):bg (.str x)=true:=by simp only[bg]
@[simp] def ND (x:String):bg (.ty x)=true:=by simp only[bg]
@[simp] def M6 (ds:LD):bg (.tup ds)=b8 ds:=by rw[bg]
@[simp] def M7 (ds:LD):bg (.lst ds)=false:=by rw[bg]
@[simp] def NE (ks:LK)(ds:LD):bg (.dk ks ds)=false:=by rw[bg]
@[simp] def NF (ks:List LK)(ds:LD):bg (.dt ks ds)=false:=by rw[bg]
@[simp] def KU:b8 []=true:=by rw[b8]
@[simp] def Jq (d:D)(ds:LD):b8 (d::ds)=(bg d && b8 ds):=by rw[b8]
section
variable {K:Frag}{H H':Hp}
mutual
theorem Is.keep (g:∀a vs,jc K H a vs->jc K H' a vs)(G:∀a vs,gP K H a vs->gP K H' a vs)(M:∀a aG ob,H a=some (.dK aG ob)->H' a=some (.dK aG ob))(O:∀a aG,H a=some (.dT aG)->H' a=some (.dT aG)):∀ {v:V}{d:D},Is K H v d->Is K H' v d
 |_,_,.non=>.non
 |_,_,.bl b=>.bl b
 |_,_,.int i=>.int i
 |_,_,.str x=>.str x
 |_,_,.ty x=>.ty x
 |_,_,.tup h hs=>.tup (g _ _ h) (IsL.keep g G M O hs)
 |_,_,.lst h hs=>.lst (G _ _ h) (IsL.keep g G M O hs)
 |_,_,.dk h hl hs=>.dk (M _ _ _ h) hl (IsL.keep g G M O hs)
 |_,_,.dt h hl hs=>.dt (O _ _ h) hl (IsL.keep g G M O hs)
theorem IsL.keep (g:∀a vs,jc K H a vs->jc K H' a vs)(G:∀a vs,gP K H a vs->gP K H' a vs)(M:∀a aG ob,H a=some (.dK aG ob)->H' a=some (.dK aG ob))(O:∀a aG,H a=some (.dT aG)->H' a=some (.dT aG)):∀ {vs:LV}{ds:LD},IsL K H vs ds->IsL K H' vs ds
 |_,_,.nil=>.nil
 |_,_,.cons h hs=>.cons (Is.keep g G M O h) (IsL.keep g G M O hs)
end
mutual
theorem Is.keepT (g:∀a vs,jc K H a vs->jc K H' a vs):∀ {v:V}{d:D},Is K H v d->bg d=true->Is K H' v d
 |_,_,.non,_=>.non
 |_,_,.bl b,_=>.bl b
 |_,_,.int i,_=>.int i
 |_,_,.str x,_=>.str x
 |_,_,.ty x,_=>.ty x
 |_,_,.tup h hs,n=>.tup (g _ _ h) (IsL.keepT g hs (by simpa using n))
 |_,_,.lst h hs,n=>by simp at n
 |_,_,.dk h hl hs,n=>by simp at n
 |_,_,.dt h hl hs,n=>by simp at n
theorem IsL.keepT (g:∀a vs,jc K H a vs->jc K H' a vs):∀ {vs:LV}{ds:LD},IsL K H vs ds->b8 ds=true->IsL K H' vs ds
 |_,_,.nil,_=>.nil
 |_,_,.cons h hs,n=>by
  simp at n;exact .cons (Is.keepT g h n.1) (IsL.keepT g hs n.2)
end
def bu (e:aW H H')(h:jc K H a xs):jc K H' a xs:=by
 rcases h with (h|⟨o,h⟩)|h
 ·exact .inl (.inl (e _ _ h))
 ·exact .inl (.inr ⟨o,e _ _ h⟩)
 ·exact .inr h
def Is.mono (h:Is K H v d)(e:aW H H'):Is K H' v d:=h.keep (λ_ _=>bu e) (λ_ _=>e.seq) (λ_ _ _ q=>e _ _ q) λ_ _ q=>e _ _ q
def IsL.mono (h:IsL K H v d)(e:aW H H'):IsL K H' v d:=h.keep (λ_ _=>bu e) (λ_ _=>e.seq) (λ_ _ _ q=>e _ _ q) λ_ _ q=>e _ _ q
theorem IsL.length:∀ {vs:LV}{ds:LD},IsL K H vs ds->vs.length=ds.length
 |_,_,.nil=>rfl
 |_,_,.cons _ t=>congrArg (· + 1) t.length
theorem IsL.get:∀ {vs:LV}{ds:LD}{i:Nat}{d:D},IsL K H vs ds->ds[i]? = some d->∃v,vs[i]? = some v/\Is K H v d
 |_,_,_,_,.nil,e=>by simp at e
 |_,_,0,_,.cons h _,e=>by simp at e;subst e;exact⟨_,rfl,h⟩
 |_,_,i+1,d,.cons _ t,e=>by
  obtain⟨u,h1,h2⟩:=t.get (i:=i) (d:=d) (by simpa using e);exact⟨u,by simpa using h1,h2⟩
theorem IsL.append:∀ {vs g:LV}{ds es:LD},IsL K H vs ds->IsL K H g es->IsL K H (vs++g) (ds++es)
 |_,_,_,_,.nil,s=>s
 |_,_,_,_,.cons r t,s=>.cons r (t.append s)
theorem IsL.take:∀ {vs:LV}{ds:LD}(n:Nat),IsL K H vs ds->IsL K H (vs.take n) (ds.take n)
 |_,_,0,_=>by simpa using IsL.nil
 |_,_,_+1,.nil=>.nil
 |_,_,n+1,.cons r t=>.cons r (t.take n)
theorem IsL.drop:∀ {vs:LV}{ds:LD}(n:Nat),IsL K H vs ds->IsL K H (vs.drop n) (ds.drop n)
 |_,_,0,r=>r
 |_,_,_+1,.nil=>.nil
 |_,_,n+1,.cons _ t=>t.drop n
theorem IsL.set (h:Is K H v d):∀ {vs:LV}{ds:LD}(i:Nat),IsL K H vs ds->IsL K H (vs.set i v) (ds.set i d)
 |_,_,_,.nil=>.nil
 |_,_,0,.cons _ t=>.cons h t
 |_,_,i+1,.cons r t=>.cons r (IsL.set h i t)
def IsL.flat {vs:LV}{ns:LI}(h:vs=ns.map V.int):IsL K H vs (ns.map D.int):=by
 subst h;induction ns with
 |nil=>exact .nil
 |cons n ns g=>exact .cons (.int n) g
end
structure Ext (B N H H':Hp):Prop where
 hh:aW H H'
 bn:aW B N
 nh:aW N H'
 new:∀a o,N a=some o->B a=some o∨H a=none
def Ext.refl (h:aW B H):Ext B B H H:=⟨.refl _,.refl _,h,λ_ _ e=>.inl e⟩
def Ext.trans (x:Ext B N H H1)(y:Ext N N2 H1 H2):Ext B N2 H H2 :=
 ⟨x.hh.trans y.hh,x.bn.trans y.bn,y.nh,λa o e=>(y.new a o e).elim (λq=>x.new a o q) λq=>.inr (x.hh.free q)⟩
def Ext.laid (h:aW B H)(hp:H p=none):Ext B (upd B p o) H (upd H p o):=by
 have g:B p=none:=h.free hp;refine⟨λa u e=>?_,λa u e=>?_,λa u e=>?_,λa u e=>?_⟩
 ·rw[aJ (λq=>by subst q;rw[hp]at e;cases e)];exact e
 ·rw[aJ (λq=>by subst q;rw[g]at e;cases e)];exact e
 ·by_cases q:a=p
  ·subst q;rw[aC]at e ⊢;exact e
  ·rw[aJ q]at e ⊢;exact h _ _ e
 ·by_cases q:a=p
  ·subst q;exact .inr hp
  ·rw[aJ q]at e;exact .inl e
def Ext.grow (h:aW B H)(hh:aW H H'):Ext B B H H':=⟨hh,.refl _,h.trans hh,λ_ _ e=>.inl e⟩
abbrev Env:=List OB
abbrev FE:=Env->OB
abbrev FA:=Env->Option LD
abbrev FT:=Env->Option Bool
def M8 (K:Frag)(H N:Hp)(v:V)(d:D):Prop:=∃(a:Addr)(vs:LV)(ds:LD),v=.ref a/\d=.lst ds/\H a=none/\N a=some (.lst vs)/\IsL K N vs ds
def M8.back (h:M8 K H' N v d)(e:aW H H'):M8 K H N v d:=let ⟨a,vs,ds,q,y,z,r⟩:=h;⟨a,vs,ds,q,y,e.free z,r⟩
noncomputable def lZ:LS:=["in_order","has_seal","is_first_death","bases_by"]
noncomputable def pK (x:Str):Str:=x ++ ".<locals>." ++ "<lambda>"
def Tb (K:Frag)(B:Hp):Prop:=∀x∈lZ,∀c P,PySem.W.tabIn K x=some (c,P)->B P=some (.tbl (pK x))
def Tb.mono (h:Tb K B)(e:aW B B'):Tb K B':=λx hx c P q=>e _ _ (h x hx c P q)
structure fP (K:Frag)(B:Hp)(σ:St)(ρ:Env):Prop where
 tb:Tb K B
 at':∀(i:Nat)(d:D)(b:Bool),ρ[i]? = some (some (d,b))->∃v,σ[i]? = some (some v)/\Is K B v d
def fP.mono (h:fP K B σ ρ)(e:aW B B'):fP K B' σ ρ:=⟨h.tb.mono e,λi d b q=>let ⟨v,h1,h2⟩:=h.at' i d b q;⟨v,h1,h2.mono e⟩⟩
def Fin (K:Frag)(B H:Hp)(d:D)(b:Bool)(Q:VK):Prop:=∀(v:V)(H' N:Hp),Ext B N H H'->Is K N v d->(b=true->M8 K H N v d)->Q v H'
def tD (K:Frag)(f:FE):TE:=λσ H Q=>∃(B:Hp)(ρ:Env)(d:D)(b:Bool),aW B H/\fP K B σ ρ/\f ρ=some (d,b)/\Fin K B H d b Q
def C8 (K:Frag)(f:FT):TT:=λσ H Q=>∃(B:Hp)(ρ:Env)(c:Bool),aW B H/\fP K B σ ρ/\f ρ=some c/\∀H',aW H H'->Q c H'
def KW (K:Frag)(f:FA):TA:=λσ H Q=>∃(B:Hp)(ρ:Env)(ds:LD),aW B H/\fP K B σ ρ/\f ρ=some ds/\∀(vs:LV)(H' N:Hp),Ext B N H H'->IsL K N vs ds->Q vs H'
def rD (K:Frag)(op:D->D->OB):R2:=λx y H Q=>∃(B:Hp)(dx g d:D)(b:Bool),aW B H/\Is K B x dx/\Is K B y g/\op dx g=some (d,b)/\Fin K B H d b Q
def Qt (K:Frag)(op:D->OB):V->Hp->VK->Prop:=λx H Q=>∃(B:Hp)(dx d:D)(b:Bool),aW B H/\Is K B x dx/\op dx=some (d,b)/\Fin K B H d b Q
def AE (K:Frag)(op:LD->OB):LV->Hp->VK->Prop:=λxs H Q=>∃(B:Hp)(ds:LD)(d:D)(b:Bool),aW B H/\IsL K B xs ds/\op ds=some (d,b)/\Fin K B H d b Q
def Fin.one (h:Fin K B H d false Q)(s:aW B H)(i:Is K B v d):Q v H:=h v H B (.refl s) i (by simp)
def Fin.into (h:Fin K B H d b Q)(x:Ext B N H H1):Fin K N H1 d b Q:=λv H' N' y i fr=>h v H' N' (x.trans y) i λe=>(fr e).back x.hh
@[simp] noncomputable def fC (d:D):FE:=λ_=>some (d,false)
@[simp] noncomputable def ah (i:Nat):FE:=λρ=>match ρ[i]? with|some (some (d,_))=>some (d,false)|_=>none
@[simp] noncomputable def f2 (op:D->D->OB)(fa g:FE):FE:=λρ=>(fa ρ).bind λx=>(g ρ).bind λy=>op x.1 y.1
@[simp] noncomputable def f1 (op:D->OB)(fa:FE):FE:=λρ=>(fa ρ).bind λx=>op x.1
@[simp] noncomputable def aj:FA:=λ_=>some []
@[simp] noncomputable def ag (fa:FE)(fr:FA):FA:=λρ=>(fa ρ).bind λx=>(fr ρ).bind λxs=>some (x.1::xs)
@[simp] noncomputable def fA (op:LD->OB)(fa:FA):FE:=λρ=>(fa ρ).bind op
def KY (h:tD K (ah i) σ H Q):∃v,σ[i]? = some (some v)/\Q v H:=by
 obtain⟨B,ρ,d,b,s,r,e,q⟩:=h;unfold ah at e;split at e
 ·rename_i d' b' g;cases e
  obtain⟨v,h1,h2⟩:=r.at' i _ _ g;exact⟨v,h1,q.one s h2⟩
 ·cases e
def GW (h:tD K (f2 op fa fb) σ H Q):tD K fa σ H λx M=>tD K fb σ M λy H2=>rD K op x y H2 Q:=by
 obtain⟨B,ρ,d,b,s,r,e,q⟩:=h;obtain⟨x,ex,e⟩:=oX e;obtain⟨y,O,e⟩:=oX e;refine⟨B,ρ,x.1,x.2,s,r,ex,λv M N g T _=>⟨N,ρ,y.1,y.2,g.nh,r.mono g.bn,O,λv2 H2 N2 G U _=>⟨N2,x.1,y.1,d,b,G.nh,T.mono G.bn,U,e,?_⟩⟩⟩;exact q.into (g.trans G)
def Qu (h:tD K (f1 op fa) σ H Q):tD K fa σ H λx g=>Qt K op x g Q:=by
 obtain⟨B,ρ,d,b,s,r,e,q⟩:=h;obtain⟨x,ex,e⟩:=oX e;exact⟨B,ρ,x.1,x.2,s,r,ex,λv g N G M _=>⟨N,x.1,d,b,G.nh,M,e,q.into G⟩⟩
def GX (h:tD K (fA op fa) σ H Q):KW K fa σ H λxs g=>AE K op xs g Q:=by
 obtain⟨B,ρ,d,b,s,r,e,q⟩:=h;obtain⟨x,ex,e⟩:=oX e;exact⟨B,ρ,x,s,r,ex,λv g N G M=>⟨N,x,d,b,G.nh,M,e,q.into G⟩⟩
def GY (h:KW K aj σ H Q):Q [] H:=by
 obtain⟨B,ρ,ds,s,r,e,q⟩:=h;cases e
 exact q [] H B (.refl s) .nil
def DY (h:KW K (ag fa fr) σ H Q):tD K fa σ H λx G=>KW K fr σ G λxs H2=>Q (x::xs) H2:=by
 obtain⟨B,ρ,ds,s,r,e,q⟩:=h;obtain⟨x,ex,e⟩:=oX e;obtain⟨y,O,e⟩:=oX e;cases e
 exact⟨B,ρ,x.1,x.2,s,r,ex,λv G N g T _=>⟨N,ρ,y,g.nh,r.mono g.bn,O,λvs H2 N2 M U=>q _ H2 N2 (g.trans M) (.cons (T.mono M.bn) U)⟩⟩
@[simp] noncomputable def bp (f:FE):FT:=λρ=>match f ρ with|some (.bl c,_)=>some c|_=>none
@[simp] noncomputable def dq (f g:FT):FT:=λρ=>match f ρ with|some true=>g ρ|some false=>some false|none=>none
@[simp] noncomputable def jf (f g:FT):FT:=λρ=>match f ρ with|some true=>some true|some false=>g ρ|none=>none
@[simp] noncomputable def fD (f:FT):FT:=λρ=>(f ρ).map (!·)
open Classical in
noncomputable def dn (H:Hp)(P:Addr->Prop):Hp:=λa=>if P a then none else H a
def cH (h:¬P a):dn H P a=H a:=by unfold dn;rw[if_neg h]
def zG (h:P a):dn H P a=none:=by unfold dn;rw[if_pos h]
def pL (h:dn H P a=some o):¬P a/\H a=some o:=by
 by_cases q:P a
 ·rw[zG q]at h;cases h
 ·rw[cH q]at h;exact⟨q,h⟩
def bI:aW (dn H P) H:=λ_ _ e=>(pL e).2
def dF (e:∀a o,H a=some o->¬P a->H' a=some o/\¬P' a):aW (dn H P) (dn H' P'):=λa o q=>by
 obtain⟨h1,h2⟩:=pL q;obtain⟨h3,h4⟩:=e a o h2 h1;rw[cH h4];exact h3
noncomputable def join (N N':Hp):Hp:=λa=>match N a with|some o=>some o|none=>N' a
def eG:aW N (join N N'):=λa o e=>by unfold join;rw[e]
def eA (e:N a=none):join N N' a=N' a:=by unfold join;rw[e]
def own (σ:St)(ρ:Env)(a:Addr):Prop:=∃(i:Nat)(d:D),ρ[i]? = some (some (d,true))/\σ[i]? = some (some (V.ref a))
inductive Bx (K:Frag)(C:Hp):HO->D->Prop where
 |lst {vs:List V}{ds:List D}(h:IsL K C vs ds):Bx K C (.lst vs) (.lst ds)
 |dk {ks:List dD}{vs:List V}{ds:List D}(hl:ks.length=vs.length) (h:IsL K C vs ds) {ob:Obj}:Bx K C (.dK (ks.zip vs) ob) (.dk ks ds)
 |dt {ks:List (List dD)}{vs:List V}{ds:List D}(hl:ks.length=vs.length) (h:IsL K C vs ds):Bx K C (.dT (ks.zip vs)) (.dt ks ds)
def Bx.mono (h:Bx K C o d)(e:aW C C'):Bx K C' o d:=by
 cases h with
 |lst h=>exact .lst (h.mono e)
 |dk hl h=>exact .dk hl (h.mono e)
 |dt hl h=>exact .dt hl (h.mono e)
def Bx.is (h:Bx K C o d)(e:C a=some o):Is K C (.ref a) d:=by
 cases h with
 |lst h=>exact .lst (gP.of e) h
 |dk hl h=>exact .dk e hl h
 |dt hl h=>exact .dt e hl h
structure dC (K:Frag)(B0 H0 N H:Hp)(σ:St)(ρ:Env):Prop where
 bh:aW B0 H0
 tb:Tb K B0
 ext:Ext B0 N H0 H
 len:ρ.length=σ.length
 sh:∀(i:Nat)(d:D),ρ[i]? = some (some (d,false))->∃v,σ[i]? = some (some v)/\Is K (dn N (own σ ρ)) v d
 ow:∀(i:Nat)(d:D),ρ[i]? = some (some (d,true))->∃(a:Addr)(o:HO),σ[i]? = some (some (V.ref a))/\N a=some o/\H0 a=none/\Bx K (dn N (own σ ρ)) o d
 inj:∀(i j:Nat)(a:Addr)(d e:D),ρ[i]? = some (some (d,true))->ρ[j]? = some (some (e,true))->σ[i]? = some (some (V.ref a))->σ[j]? = some (some (V.ref a))->i=j
def zH (K:Frag)(B0 H0 H:Hp)(σ:St)(ρ:Env):Prop:=∃N,dC K B0 H0 N H σ ρ
section
variable {K:Frag}{B0 H0 N H H':Hp}{σ:St}{ρ:Env}
def dC.owL (s:dC K B0 H0 N H σ ρ)(i:Nat)(d:D)(q:ρ[i]? = some (some (.lst es,true)))(hd:d=.lst es:=by rfl):∃(a:Addr)(vs:LV)(ds:LD),d=.lst ds/\σ[i]? = some (some (V.ref a))/\N a=some (.lst vs)/\H0 a=none/\IsL K (dn N (own σ ρ)) vs ds:=by
 obtain⟨a,o,h1,h2,h3,h4⟩:=s.ow i _ q;cases h4 with
 |lst h4=>exact⟨a,_,es,hd,h1,h2,h3,h4⟩
def boxed:HO->Prop
 |.lst _|.dK _ _|.dT _=>True
 |_=>False
def Bx.boxed (h:Bx K C o d):boxed o:=by cases h<;>exact trivial
def dC.owned (s:dC K B0 H0 N H σ ρ)(h:own σ ρ a):∃o,(N a=some o/\boxed o)/\H0 a=none:=by
 obtain⟨i,d,h1,h2⟩:=h;obtain⟨G,o,h3,h4,h5,g⟩:=s.ow i d h1;rw[h2]at h3;cases h3;exact⟨o,⟨h4,g.boxed⟩,h5⟩
def dC.rep (s:dC K B0 H0 N H σ ρ):fP K N σ ρ:=⟨s.tb.mono s.ext.bn,λi d b q=>by
 cases b with
 |false=>obtain⟨v,h1,h2⟩:=s.sh i d q;exact⟨v,h1,h2.mono bI⟩
 |true=>
  obtain⟨a,o,h2,h3,_,h4⟩:=s.ow i d q;exact⟨_,h2,(h4.mono bI).is h3⟩⟩
noncomputable def eO (ρ:Env):Env:=ρ.map λx=>match x with|some (d,false)=>some (d,false)|_=>none
def DZ {i:Nat}{d:D}{b:Bool}(h:(eO ρ)[i]? = some (some (d,b))):b=false/\ρ[i]? = some (some (d,false)):=by
 unfold eO at h;rw[vA]at h;cases e:ρ[i]? with
 |none=>rw[e]at h;cases h
 |some x=>
  rw[e]at h;match x,h with
  |some (d',false),h=>cases h;exact⟨rfl,rfl⟩
  |some (d',true),h=>cases h
  |none,h=>cases h
def dC.tbC (s:dC K B0 H0 N H σ ρ):Tb K (dn N (own σ ρ)):=λx hx c P q=>by
 have z:=s.tb.mono s.ext.bn x hx c P q;rw[cH]
 ·exact z
 ·intro y;obtain⟨o,⟨y,g⟩,_⟩:=s.owned y;rw[z]at y;cases y;exact g
def dC.repH (s:dC K B0 H0 N H σ ρ):fP K (dn N (own σ ρ)) σ (eO ρ):=⟨s.tbC,λi d b q=>by
 obtain⟨rfl,g⟩:=DZ q;exact s.sh i d g⟩
def dC.grow (s:dC K B0 H0 N H σ ρ)(x:Ext N N' H H'):dC K B0 H0 N' H' σ ρ:=by
 have c:aW (dn N (own σ ρ)) (dn N' (own σ ρ)):=dF λa o e q=>⟨x.bn a o e,q⟩;refine⟨s.bh,s.tb,s.ext.trans x,s.len,λi d q=>?_,λi d q=>?_,s.inj⟩
 ·obtain⟨v,h1,h2⟩:=s.sh i d q;exact⟨v,h1,h2.mono c⟩
 ·obtain⟨a,o,h2,h3,h4,h5⟩:=s.ow i d q;exact⟨a,o,h2,x.bn _ _ h3,h4,h5.mono c⟩
def dC.growH (s:dC K B0 H0 N H σ ρ)(x:Ext (dn N (own σ ρ)) N' H H'):dC K B0 H0 (join N N') H' σ ρ/\aW N' (dn (join N N') (own σ ρ)):=by
 have G:Ext N (join N N') H H':=by
  refine⟨x.hh,eG,λa o e=>?_,λa o e=>?_⟩
  ·cases q:N a with
   |some u=>
    have:join N N' a=some u:=eG _ _ q;rw[this]at e;cases e;exact x.hh _ _ (s.ext.nh _ _ q)
   |none=>rw[eA q]at e;exact x.nh _ _ e
  ·cases q:N a with
   |some u=>
    have:join N N' a=some u:=eG _ _ q;rw[this]at e;cases e;exact .inl rfl
   |none=>
    rw[eA q]at e;rcases x.new a o e with z|z
    ·have:=bI _ _ z;rw[q]at this;cases this
    ·exact .inr z
 refine⟨s.grow G,λa o e=>?_⟩;rcases x.new a o e with z|z
 ·obtain⟨M,O⟩:=pL z;rw[cH M];exact eG _ _ O
 ·have g:N a=none:=s.ext.nh.free z;have:¬own σ ρ a:=λq=>by obtain⟨vs,⟨q,_⟩,_⟩:=s.owned q;rw[g]at q;cases q
  rw[cH this,eA g];exact e
noncomputable def unown (ρ:Env):Env:=ρ.map λx=>x.map λy=>(y.1,false)
def kI {i:Nat}{d:D}{b:Bool}(h:(unown ρ)[i]? = some (some (d,b))):b=false/\∃c,ρ[i]? = some (some (d,c)):=by
 unfold unown at h;rw[vA]at h;cases e:ρ[i]? with
 |none=>rw[e]at h;cases h
 |some x=>
  rw[e]at h;match x,h with
  |some (d',c),h=>cases h;exact⟨rfl,c,rfl⟩
  |none,h=>cases h
def np {a:Addr}:¬own σ (unown ρ) a:=λ⟨i,d,h,_⟩=>by
 obtain⟨z,_⟩:=kI h;cases z
def dC.unown (s:dC K B0 H0 N H σ ρ):dC K B0 H0 N H σ (unown ρ):=by
 refine⟨s.bh,s.tb,s.ext,by unfold DL.unown;rw[vI];exact s.len,λi d q=>?_,λi d q=>?_,λi j a d e q=>?_⟩
 ·obtain⟨_,c,q⟩:=kI q;obtain⟨v,h1,h2⟩:=s.rep.at' i d c q;exact⟨v,h1,h2.mono λa o e=>by rw[cH np];exact e⟩
 ·obtain⟨z,_⟩:=kI q;cases z
 ·obtain⟨z,_⟩:=kI q;cases z
def ca {α:Type}{l:List α}{i j:Nat}{x y:α}(h:(l.set i x)[j]? = some y):(i=j/\x=y)∨(i≠j/\l[j]? = some y):=by
 by_cases e:i=j
 ·subst e;rw[List.getElem?_set]at h;split at h
  ·split at h
   ·exact .inl ⟨rfl,vK h⟩
   ·cases h
  ·contradiction
 ·rw[vB e]at h;exact .inr ⟨e,h⟩
def sZ {α g:Type}{l:List α}{m:List g}{i:Nat}{x y:α}(h:(l.set i x)[i]? = some y)(e:l.length=m.length):i<m.length:=by
 obtain⟨h,_⟩:=vV h;rw[length_set]at h;omega
def uM {i:Nat}{v:V}{x:OB}{a:Addr}(h:own (σ.set i (some v)) (ρ.set i x) a):(v=.ref a/\∃d,x=some (d,true))∨∃j,j≠i/\∃d,ρ[j]? = some (some (d,true))/\σ[j]? = some (some (V.ref a)):=by
 obtain⟨j,d,h1,h2⟩:=h;rcases ca h1 with⟨e,q⟩|⟨e,q⟩
 ·rcases ca h2 with⟨e2,g⟩|⟨e2,g⟩
  ·cases g;exact .inl ⟨rfl,d,q⟩
  ·exact absurd e e2
 ·rcases ca h2 with⟨e2,g⟩|⟨e2,g⟩
  ·exact absurd e2 e
  ·exact .inr ⟨j,λz=>e z.symm,d,q,g⟩
def dC.bind (s:dC K B0 H0 N H σ ρ){i:Nat}{v:V}{d:D}(h:Is K (dn N (own σ ρ)) v d):dC K B0 H0 N H (σ.set i (some v)) (ρ.set i (some (d,false))):=by
 have o:∀a,own (σ.set i (some v)) (ρ.set i (some (d,false))) a->own σ ρ a:=λa q=>by
  rcases uM q with⟨_,d',p⟩|⟨j,_,d',M,O⟩
  ·cases p
  ·exact⟨j,d',M,O⟩
 have c:aW (dn N (own σ ρ)) (dn N (own (σ.set i (some v)) (ρ.set i (some (d,false))))):=dF λa u e q=>⟨e,λz=>q (o a z)⟩;refine⟨s.bh,s.tb,s.ext,by simp[s.len],λj e q=>?_,λj e q=>?_,λj k a e f q T h1 h2=>?_⟩
 ·rcases ca q with⟨rfl,p⟩|⟨ne,p⟩
  ·cases p
   have hi:=sZ q s.len;exact⟨v,by simp[hi],h.mono c⟩
  ·obtain⟨w,h1,h2⟩:=s.sh j e p;exact⟨w,by rw[vB ne];exact h1,h2.mono c⟩
 ·rcases ca q with⟨rfl,p⟩|⟨ne,p⟩
  ·cases p
  ·obtain⟨a,o,h1,h2,h3,h4⟩:=s.ow j e p;exact⟨a,o,by rw[vB ne];exact h1,h2,h3,h4.mono c⟩
 ·rcases ca q with⟨rfl,p⟩|⟨ne,p⟩
  ·cases p
  ·rcases ca T with⟨rfl,g⟩|⟨G,g⟩
   ·cases g
   ·rw[vB ne]at h1;rw[vB G]at h2;exact s.inj j k a e f p g h1 h2
def dC.bindOwn (s:dC K B0 H0 N H σ ρ){i:Nat}{a:Addr}{ob:HO}{dd:D}(hN:N a=some ob)(h0:H0 a=none)(G:∀(j:Nat)(d:D),ρ[j]? = some (some (d,true))->σ[j]? ≠ some (some (V.ref a)))
  (T:∀(j:Nat)(d:D),j≠i->ρ[j]? = some (some (d,false))->∃v,σ[j]? = some (some v)/\Is K (dn N (λb=>own σ ρ b∨b=a)) v d) (U:∀(j:Nat)(d:D),j≠i->ρ[j]? = some (some (d,true))->∃(M:Addr)(o:HO),σ[j]? = some (some (V.ref M))/\N M=some o/\Bx K (dn N (λb=>own σ ρ b∨b=a)) o d)
  (QX:Bx K (dn N (λb=>own σ ρ b∨b=a)) ob dd):dC K B0 H0 N H (σ.set i (some (.ref a))) (ρ.set i (some (dd,true))):=by
 have o:∀b,own (σ.set i (some (V.ref a))) (ρ.set i (some (dd,true))) b->own σ ρ b∨b=a:=λb q=>by
  rcases uM q with⟨p,_⟩|⟨j,_,d',q1,q2⟩
  ·cases p;exact .inr rfl
  ·exact .inl ⟨j,d',q1,q2⟩
 have c:aW (dn N (λb=>own σ ρ b∨b=a)) (dn N (own (σ.set i (some (V.ref a))) (ρ.set i (some (dd,true))))):=dF λb u e q=>⟨e,λz=>q (o b z)⟩;refine⟨s.bh,s.tb,s.ext,by simp[s.len],λj e q=>?_,λj e q=>?_,λj k b e f q q' h1 h2=>?_⟩
 ·rcases ca q with⟨rfl,p⟩|⟨ne,p⟩
  ·cases p
  ·obtain⟨w,h1,h2⟩:=T j e (Ne.symm ne) p;exact⟨w,by rw[vB ne];exact h1,h2.mono c⟩
 ·rcases ca q with⟨rfl,p⟩|⟨ne,p⟩
  ·cases p
   have hi:=sZ q s.len;exact⟨a,ob,by simp[hi],hN,h0,QX.mono c⟩
  ·obtain⟨M,o',h1,h2,h4⟩:=U j e (Ne.symm ne) p;have h3:H0 M=none:=by
    obtain⟨a2,_,k1,_,k3,_⟩:=s.ow j e p;rw[h1]at k1;cases k1;exact k3
   exact⟨M,o',by rw[vB ne];exact h1,h2,h3,h4.mono c⟩
 ·rcases ca q with⟨rfl,p⟩|⟨ne,p⟩
  ·rcases ca q' with⟨rfl,O⟩|⟨g,O⟩
   ·rfl
   ·rw[vB g]at h2;have Vl:V.ref a=V.ref b:=by
     rcases ca h1 with⟨_,z⟩|⟨z,_⟩
     ·exact vK z
     ·exact absurd rfl z
    cases Vl
    exact absurd h2 (G k f O)
  ·rcases ca q' with⟨rfl,O⟩|⟨g,O⟩
   ·rw[vB ne]at h1;have MH:V.ref a=V.ref b:=by
     rcases ca h2 with⟨_,z⟩|⟨z,_⟩
     ·exact vK z
     ·exact absurd rfl z
    cases MH
    exact absurd h1 (G j e p)
   ·rw[vB ne]at h1;rw[vB g]at h2;exact s.inj j k b e f p O h1 h2
end
inductive Res where
 |nx (ρ:Env)|rt (d:D) (b:Bool)|bk (ρ:Env)|ct (ρ:Env)
abbrev FS:=Env->Option Res
def NG (K:Frag)(B0 H0:Hp)(E:Ends):Res->Prop
 |.nx ρ=>∀σ H,zH K B0 H0 H σ ρ->E.nx σ H
 |.rt d b=>∀v H N,Ext B0 N H0 H->Is K N v d->(b=true->M8 K H0 N v d)->E.rt v H
 |.bk ρ=>∀σ H,zH K B0 H0 H σ ρ->E.bk σ H
 |.ct ρ=>∀σ H,zH K B0 H0 H σ ρ->E.ct σ H
def lS (K:Frag)(g:FS):TS:=λE σ H=>∃(B0 H0:Hp)(ρ:Env)(r:Res),zH K B0 H0 H σ ρ/\g ρ=some r/\NG K B0 H0 E r
section
variable {K:Frag}{B0 H0 N H H':Hp}{σ:St}{ρ:Env}{E:Ends}
def dC.writeB (s:dC K B0 H0 N H σ ρ)(hi:ρ[i]? = some (some (d,true)))(g:σ[i]? = some (some (V.ref a)))(h:Bx K (dn N (own σ ρ)) ob dd):
  dC K B0 H0 (upd N a ob) (upd H a ob) σ (ρ.set i (some (dd,true))):=by
 have T:own σ ρ a:=⟨i,d,hi,g⟩;obtain⟨ws,hw,h0⟩:=s.owned T;have b0:B0 a=none:=s.bh.free h0;have o:∀b,own σ (ρ.set i (some (dd,true))) b↔own σ ρ b:=λb=>by
  constructor
  ·rintro⟨j,e,M,G⟩;rcases ca M with⟨rfl,p⟩|⟨_,p⟩
   ·exact⟨i,d,hi,G⟩
   ·exact⟨j,e,p,G⟩
  ·rintro⟨j,e,M,G⟩;by_cases z:i=j
   ·subst z;exact⟨i,dd,by rw[getElem?_set_self (vV hi).1],G⟩
   ·exact⟨j,e,by rw[vB z];exact M,G⟩
 have c:aW (dn N (own σ ρ)) (dn (upd N a ob) (own σ (ρ.set i (some (dd,true))))):=dF λb u e q=>by
  have ne:b≠a:=λz=>q (z ▸ T);exact⟨by rw[aJ ne];exact e,λz=>q ((o b).mp z)⟩
 refine⟨s.bh,s.tb,⟨λb u e=>?_,λb u e=>?_,λb u e=>?_,λb u e=>?_⟩,by rw[length_set];exact s.len,λj e q=>?_,λj e q=>?_,λj k b e f q q' h1 h2=>?_⟩
 ·rw[aJ (λz=>by subst z;rw[h0]at e;cases e)];exact s.ext.hh _ _ e
 ·rw[aJ (λz=>by subst z;rw[b0]at e;cases e)];exact s.ext.bn _ _ e
 ·by_cases z:b=a
  ·subst z;rw[aC]at e ⊢;exact e
  ·rw[aJ z]at e ⊢;exact s.ext.nh _ _ e
 ·by_cases z:b=a
  ·subst z;exact .inr h0
  ·rw[aJ z]at e;exact s.ext.new _ _ e
 ·rcases ca q with⟨rfl,p⟩|⟨ne,p⟩
  ·cases p
  ·obtain⟨v,h1,h2⟩:=s.sh j e p;exact⟨v,h1,h2.mono c⟩
 ·rcases ca q with⟨rfl,p⟩|⟨ne,p⟩
  ·cases p
   exact⟨a,ob,g,aC,h0,h.mono c⟩
  ·obtain⟨U,o',h1,h2,h3,h4⟩:=s.ow j e p;have na:U≠a:=λz=>by subst z;exact ne (s.inj i j _ d e hi p g h1)
   exact⟨U,o',h1,by rw[aJ na];exact h2,h3,h4.mono c⟩
 ·have get:∀ {j:Nat}{e:D},(ρ.set i (some (dd,true)))[j]? = some (some (e,true))->∃O,ρ[j]? = some (some (O,true)):=λ{j e} q=>by
   rcases ca q with⟨rfl,p⟩|⟨ne,p⟩
   ·exact⟨d,hi⟩
   ·exact⟨e,p⟩
  obtain⟨O,M⟩:=get q;obtain⟨f',G⟩:=get q';exact s.inj j k b O f' M G h1 h2
def dC.write (s:dC K B0 H0 N H σ ρ)(hi:ρ[i]? = some (some (d,true)))(g:σ[i]? = some (some (V.ref a)))(h:IsL K (dn N (own σ ρ)) vs ds):
  dC K B0 H0 (upd N a (.lst vs)) (upd H a (.lst vs)) σ (ρ.set i (some (.lst ds,true))):=s.writeB hi g (.lst h)
def dC.tups (s:dC K B0 H0 N H σ ρ):∀a vs,jc K N a vs->jc K (dn N (own σ ρ)) a vs:=λa vs h=>by
 have key:∀u,N a=some u->¬boxed u->dn N (own σ ρ) a=some u:=λu e hu=>by
  rw[cH λz=>?_];exact e;obtain⟨G,⟨q,g⟩,_⟩:=s.owned z;rw[e]at q;cases q;exact hu g
 rcases h with (h|⟨o,h⟩)|h
 ·exact .inl (.inl (key _ h (λq=>q)))
 ·exact .inl (.inr ⟨o,key _ h (λq=>q)⟩)
 ·exact .inr h
def dC.flat (s:dC K B0 H0 N H σ ρ)(h:Is K N v d)(n:bg d=true):Is K (dn N (own σ ρ)) v d:=h.keepT s.tups n
def dC.flats (s:dC K B0 H0 N H σ ρ)(h:IsL K N v d)(n:b8 d=true):IsL K (dn N (own σ ρ)) v d:=h.keepT s.tups n
def dC.rebase (s:dC K B0 H0 N H σ ρ):dC K (dn N (own σ ρ)) (dn H (own σ ρ)) N H σ ρ :=
 ⟨dF λa o e q=>⟨s.ext.nh _ _ e,q⟩,s.tbC,⟨bI,bI,s.ext.nh,λa o e=>by
  by_cases q:own σ ρ a
  ·exact .inr (zG q)
  ·exact .inl (by rw[cH q];exact e)⟩,s.len,s.sh,λi d q=>by
   obtain⟨a,o,h1,h2,_,h4⟩:=s.ow i d q;exact⟨a,o,h1,h2,zG ⟨i,d,q,h1⟩,h4⟩,s.inj⟩
def dC.unbase (s:dC K B0 H0 N H σ ρ)(t:dC K (dn N (own σ ρ)) (dn H (own σ ρ)) N' H' σ' ρ'):dC K B0 H0 N' H' σ' ρ':=by
 have h0:aW H0 (dn H (own σ ρ)):=λa o e=>by
  rw[cH λz=>?_];exact s.ext.hh _ _ e;obtain⟨_,_,q⟩:=s.owned z;rw[q]at e;cases e
 have g:aW B0 (dn N (own σ ρ)):=λa o e=>by
  rw[cH λz=>?_];exact s.ext.bn _ _ e;obtain⟨_,_,q⟩:=s.owned z;rw[s.bh _ _ e]at q;cases q
 refine⟨s.bh,s.tb,⟨h0.trans t.ext.hh,g.trans t.ext.bn,t.ext.nh,λa o e=>?_⟩,t.len,t.sh,λi d q=>?_,t.inj⟩
 ·rcases t.ext.new a o e with z|z
  ·exact s.ext.new a o (bI _ _ z)
  ·exact .inr (h0.free z)
 ·obtain⟨a,o,h1,h2,h3,h4⟩:=t.ow i d q;exact⟨a,o,h1,h2,h0.free h3,h4⟩
def dC.based (t:dC K B0 H0 N H σ ρ):aW B0 (dn N (own σ ρ)):=λa o e=>by
 rw[cH λz=>?_];exact t.ext.bn _ _ e;obtain⟨_,_,q⟩:=t.owned z;rw[t.bh _ _ e]at q;cases q
@[simp] noncomputable def az (g h:FS):FS:=λρ=>match g ρ with|some (.nx ρ')=>h ρ'|r=>r
@[simp] noncomputable def bq:FS:=λρ=>some (.nx ρ)
@[simp] noncomputable def eI (c:FT)(g h:FS):FS:=λρ=>match c ρ with|some true=>g ρ|some false=>h ρ|none=>none
@[simp] noncomputable def aX (f:FE):FS:=λρ=>(f ρ).map λx=>.rt x.1 x.2
@[simp] noncomputable def Jr:D->Bool
 |.dk _ _=>true
 |.dt _ _=>true
 |_=>false
@[simp] def iE (i:Nat):FS:=λρ=>match ρ[i]? with|some (some (d,b))=>some (.rt d (b && !Jr d))|_=>none
@[simp] def tj:D->Bool
 |.lst ds=>b8 ds
 |_=>false
@[simp] def setE (ρ:Env)(i:Nat)(d:D)(b:Bool):Env :=
 if bg d=true then ρ.set i (some (d,false))else if b=true/\tj d=true then ρ.set i (some (d,true))else (unown ρ).set i (some (d,false))
@[simp] def aO (i:Nat)(f:FE):FS:=λρ=>(f ρ).map λx=>.nx (setE ρ i x.1 x.2)
@[simp] def xn (i:Nat)(f:FE):FS:=λρ=>(f (eO ρ)).map λx=>.nx (ρ.set i (some (x.1,false)))
@[simp] def jS (i:Nat)(f:FE):FS:=λρ=>match ρ[i]? with
 |some (some (.lst ds,true))=>(f ρ).bind λx=>if bg x.1=true/\ds.length<sizeLine then some (.nx (ρ.set i (some (.lst (ds++[x.1]),true))))else none
 |_=>none
def GZ (q:lS K (az g h) E σ H):MY (lS K g) (lS K h) E σ H:=by
 obtain⟨B0,H0,ρ,r,s,e,p⟩:=q;unfold az at e;cases G:g ρ with
 |none=>rw[G]at e;cases e
 |some M=>
  rw[G]at e;cases M with
  |nx ρ'=>exact⟨B0,H0,ρ,.nx ρ',s,G,λO H' s'=>⟨B0,H0,ρ',r,s',e,p⟩⟩
  |rt d b=>cases e;exact⟨B0,H0,ρ,_,s,G,p⟩
  |bk ρ'=>cases e;exact⟨B0,H0,ρ,_,s,G,p⟩
  |ct ρ'=>cases e;exact⟨B0,H0,ρ,_,s,G,p⟩
def Ea (q:lS K bq E σ H):Jg E σ H:=by
 obtain⟨B0,H0,ρ,r,s,e,p⟩:=q;cases e
 exact p σ H s
def zH.grown (s:dC K B0 H0 N H σ ρ)(h:aW H H'):zH K B0 H0 H' σ ρ:=⟨N,s.grow (.grow s.ext.nh h)⟩
def KZ (q:lS K (eI c g h) E σ H):Nb (C8 K c) (lS K g) (lS K h) E σ H:=by
 obtain⟨B0,H0,ρ,r,⟨N,s⟩,e,p⟩:=q;unfold eI at e;cases G:c ρ with
 |none=>rw[G]at e;cases e
 |some b=>
  rw[G]at e;refine⟨N,ρ,b,s.ext.nh,s.rep,G,λM h1=>?_⟩;cases b with
  |true=>rw[if_pos rfl];exact⟨B0,H0,ρ,r,.grown s h1,e,p⟩
  |false=>rw[if_neg (by decide)];exact⟨B0,H0,ρ,r,.grown s h1,e,p⟩
def Ha (q:lS K (aX f) E σ H):Kv (tD K f) E σ H:=by
 obtain⟨B0,H0,ρ,r,⟨N,s⟩,e,p⟩:=q;obtain⟨x,ex,e⟩:=oY e;subst e;exact⟨N,ρ,x.1,x.2,s.ext.nh,s.rep,ex,λv g N1 G M f1=>p v g N1 (s.ext.trans G) M λb=>(f1 b).back s.ext.hh⟩
def Eb (q:lS K (iE i) E σ H):Kv (mV i) E σ H:=by
 obtain⟨B0,H0,ρ,r,⟨N,s⟩,e,p⟩:=q;unfold iE at e;split at e
 ·rename_i d b ei;cases e
  cases b with
  |false=>
   obtain⟨v,h1,h2⟩:=s.sh i d ei;exact⟨v,h1,p v H N s.ext (h2.mono bI) (by simp)⟩
  |true=>
   obtain⟨a,o,h1,h2,h3,h4⟩:=s.ow i d ei;cases h4 with
   |lst h4=>exact⟨_,h1,p _ H N s.ext (.lst (gP.of h2) (h4.mono bI)) λ_=>⟨a,_,_,rfl,rfl,h3,h2,h4.mono bI⟩⟩
   |dk hl h4=>exact⟨_,h1,p _ H N s.ext (.dk h2 hl (h4.mono bI)) (by simp)⟩
   |dt hl h4=>exact⟨_,h1,p _ H N s.ext (.dt h2 hl (h4.mono bI)) (by simp)⟩
 ·cases e
def dC.setE (s:dC K B0 H0 N H σ ρ)(x:Ext N N1 H H1)(h:Is K N1 v d)(f:b=true->M8 K H N1 v d):dC K B0 H0 N1 H1 (σ.set i (some v)) (setE ρ i d b):=by
 have s1:=s.grow x;unfold DL.setE;by_cases hn:bg d=true
 ·rw[if_pos hn];exact s1.bind (s1.flat h hn)
 ·rw[if_neg hn];by_cases hb:b=true/\tj d=true
  ·rw[if_pos hb];obtain⟨a,vs,ds,rfl,rfl,ha,G,hs⟩:=f hb.1;have g:N a=none:=s.ext.nh.free ha;have M:¬own σ ρ a:=λz=>by obtain⟨O,⟨q,_⟩,_⟩:=s.owned z;rw[g]at q;cases q
   have c:aW (dn N (own σ ρ)) (dn N1 (λb=>own σ ρ b∨b=a)):=dF λb u e q=>⟨x.bn _ _ e,λz=>z.elim q λz=>by subst z;rw[g]at e;cases e⟩;refine s1.bindOwn G (s.ext.hh.free ha) (λj e q z=>M ⟨j,e,q,z⟩) (λj e _ q=>?_) (λj e _ q=>?_) (.lst (hs.keepT (λt ts st=>?_) hb.2))
   ·obtain⟨w,h1,h2⟩:=s.sh j e q;exact⟨w,h1,h2.mono c⟩
   ·obtain⟨T,o',h1,h2,_,h4⟩:=s.ow j e q;exact⟨T,o',h1,x.bn _ _ h2,h4.mono c⟩
   ·have key:∀u,N1 t=some u->¬boxed u->dn N1 (λb=>own σ ρ b∨b=a) t=some u:=λu e hu=>by
     rw[cH λz=>?_];exact e;rcases z with z|z
     ·obtain⟨O,⟨q,U⟩,_⟩:=s1.owned z;rw[e]at q;cases q;exact hu U
     ·subst z;rw[e]at G;cases G;exact hu trivial
    rcases st with (st|⟨o,st⟩)|st
    ·exact .inl (.inl (key _ st (λq=>q)))
    ·exact .inl (.inr ⟨o,key _ st (λq=>q)⟩)
    ·exact .inr st
  ·rw[if_neg hb];exact s1.unown.bind (h.mono λa o e=>by rw[cH np];exact e)
def AF (q:lS K (aO i f) E σ H):uA (tD K f) (jd i) E σ H:=by
 obtain⟨B0,H0,ρ,r,⟨N,s⟩,e,p⟩:=q;obtain⟨x,ex,e⟩:=oY e;subst e;exact⟨N,ρ,x.1,x.2,s.ext.nh,s.rep,ex,λv g N1 G M f1=>p _ g ⟨N1,s.setE G M f1⟩⟩
def Ec (q:lS K (xn i f) E σ H):uA (tD K f) (jd i) E σ H:=by
 obtain⟨B0,H0,ρ,r,⟨N,s⟩,e,p⟩:=q;obtain⟨x,ex,e⟩:=oY e;subst e;refine⟨dn N (own σ ρ),eO ρ,x.1,x.2,bI.trans s.ext.nh,s.repH,ex,λv g N1 G M f1=>?_⟩;obtain⟨s1,c⟩:=s.growH G;exact p _ g ⟨_,s1.bind (M.mono c)⟩
def Hb (q:lS K (jS i f) E σ H):∃(a:Addr)(us:LV),σ[i]? = some (some (V.ref a))/\H a=some (.lst us)/\xc (tD K f) GD σ H λxs H2=>uJ (.ref a) xs H2 λ_ M=>E.nx σ M:=by
 obtain⟨B0,H0,ρ,r,⟨N,s⟩,e,p⟩:=q;unfold jS at e;split at e
 ·rename_i ds ei;obtain⟨x,ex,e⟩:=oX e;split at e
  ·rename_i hx;cases e
   obtain⟨a,vs,g,z,h1,h2,h3,h4⟩:=s.owL i _ ei;cases z
   refine⟨a,vs,h1,s.ext.nh _ _ h2,N,ρ,x.1,x.2,s.ext.nh,s.rep,ex,λv H1 N1 G O f1=>⟨a,vs,v,rfl,rfl,G.hh _ _ (s.ext.nh _ _ h2),by rw[h4.length];exact hx.2,?_⟩⟩;have s1:=s.grow G;obtain⟨a',T,g,z,k1,k2,_,U⟩:=s1.owL i _ ei;cases z
   rw[h1]at k1;cases k1;rw[G.bn _ _ h2]at k2;cases k2;exact p σ _ ⟨_,s1.write ei h1 (U.append (.cons (s1.flat O hx.1) .nil))⟩
  ·cases e
 ·cases e
end
def nq (K:Frag)(J:It)(B:Hp)(ds:LD):Prop:=∀(i:Nat)(H:Hp),aW B H ->
 (∀d,ds[i]? = some d->J.go i H/\∀x H',J.yld i H x H'->∃N,Ext B N H H'/\Is K N x d)/\(ds.length<=i->J.stop i H)
def Su (K:Frag)(f:FA):TI:=λσ H R=>∃(B:Hp)(ρ:Env)(ds:LD),aW B H/\fP K B σ ρ/\f ρ=some ds/\∀(J:It)(H' N:Hp),Ext B N H H'->nq K J N ds->R J H'
abbrev FG:=D->Env->Option Env
def Hd (K:Frag)(tg:FG)(g:TG):Prop:=∀(B0 H0 N H:Hp)(σ:St)(ρ ρ':Env)(v:V)(d:D)(Q:St->Hp->Prop),dC K B0 H0 N H σ ρ->Is K (dn N (own σ ρ)) v d->tg d ρ=some ρ' ->
 (∀G H',zH K B0 H0 H' G ρ'->Q G H')->g v σ H Q
@[simp] noncomputable def cB (i:Nat):FG:=λd ρ=>some (ρ.set i (some (d,false)))
def cS:Hd K (cB i) (jd i):=by
 intro B0 H0 N H σ ρ ρ' v d Q s h e k;cases e
 exact k _ H ⟨N,s.bind h⟩
noncomputable def gp (tg:FG)(g:FS):LD->Env->Option Res
 |[],ρ=>some (.nx ρ)
 |d::ds,ρ=>(tg d ρ).bind λG=>match g G with
  |some (.nx ρ')=>gp tg g ds ρ'
  |some (.ct ρ')=>gp tg g ds ρ'
  |some (.bk ρ')=>some (.nx ρ')
  |r=>r
@[simp] def xo (tg:FG)(g:FS)(ρ:Env):gp tg g [] ρ=some (.nx ρ):=by rw[gp]
@[simp] theorem kJ (tg:FG)(g:FS)(d:D)(ds:LD)(ρ:Env):gp tg g (d::ds) ρ=(tg d ρ).bind λG=>match g G with
  |some (.nx ρ')=>gp tg g ds ρ'
  |some (.ct ρ')=>gp tg g ds ρ'
  |some (.bk ρ')=>some (.nx ρ')
  |r=>r:=by rw[gp]
@[simp] def l8 (f:FA)(tg:FG)(g:FS):FS:=λρ=>(f (eO ρ)).bind λds=>gp tg g ds ρ
def xp (ht:Hd K tg t)(s1:dC K B0 H0 N H1 σ ρ)(c:aW N1 (dn N (own σ ρ)))(J1:nq K J N1 ds)(e:gp tg g ds ρ=some r)(p:NG K B0 H0 E r):
  ∃W:Nat->Nat->St->Hp->Prop,(∃m,W 0 m σ H1)/\∀i m σ H,W i m σ H->(J.stop i H/\E.nx σ H)∨(J.go i H/\∃N:St->Hp->Prop,(∀G H',N G H'->∃m',m'<m/\W (i+1) m' G H')/\∀x H',J.yld i H x H'->t x σ H' λT H2=>lS K g { E with nx:=N,ct:=N,bk:=E.nx } T H2):=by
 refine⟨λi m σ H=>∃(N:Hp)(ρ:Env),dC K B0 H0 N H σ ρ/\aW N1 (dn N (own σ ρ))/\m=ds.length - i/\i<=ds.length/\gp tg g (ds.drop i) ρ=some r,⟨ds.length,_,ρ,s1,c,rfl,uN _,e⟩,?_⟩;clear e s1 c;rintro i m σ H ⟨N,ρ,s,c,rfl,hi,e⟩;have hs:aW N1 H:=c.trans (bI.trans s.ext.nh);obtain⟨j1,j2⟩:=J1 i H hs;by_cases M:i<ds.length
 ·obtain⟨go,yl⟩:=j1 ds[i] (by simp[M]);rw[List.drop_eq_getElem_cons M]at e;obtain⟨U,e1,e⟩:=oX e;refine .inr ⟨go,λG H'=>∃(N:Hp)(ρ:Env),dC K B0 H0 N H' G ρ/\aW N1 (dn N (own G ρ))/\gp tg g (ds.drop (i+1)) ρ=some r,λG H' ⟨N',ρ',s',c',e'⟩=>⟨_,by omega,N',ρ',s',c',rfl,M,e'⟩,λx H' y=>?_⟩;obtain⟨N2,O,i2⟩:=yl x H' y;have x3:Ext (dn N (own σ ρ)) (join (dn N (own σ ρ)) N2) H H':=by
   refine⟨O.hh,eG,λa o e=>?_,λa o e=>?_⟩
   ·cases q:dn N (own σ ρ) a with
    |some u=>rw[eG _ _ q]at e;cases e;exact O.hh _ _ (s.ext.nh _ _ (bI _ _ q))
    |none=>rw[eA q]at e;exact O.nh _ _ e
   ·cases q:dn N (own σ ρ) a with
    |some u=>rw[eG _ _ q]at e;cases e;exact .inl rfl
    |none=>
     rw[eA q]at e;rcases O.new a o e with z|z
     ·rw[c _ _ z]at q;cases q
     ·exact .inr z
  obtain⟨s2,c2⟩:=s.growH x3;have c3:aW N2 (join (dn N (own σ ρ)) N2):=λa o e=>by
   rcases O.new a o e with z|z
   ·exact eG _ _ (c _ _ z)
   ·rw[eA ((bI.trans s.ext.nh).free z)];exact e
  have i3:=i2.mono (c3.trans c2);have c4:aW N1 (dn (join N (join (dn N (own σ ρ)) N2)) (own σ ρ)):=(O.bn.trans c3).trans c2;refine ht _ _ _ _ _ _ _ _ _ _ s2.rebase i3 e1 λT H2 ⟨N4,s4⟩=>?_;cases eg:g U with
  |none=>rw[eg]at e;cases e
  |some r1=>
   rw[eg]at e;refine⟨_,_,U,r1,⟨N4,s4⟩,eg,?_⟩;have back:∀ {G:St}{H':Hp}{ρ':Env}{N':Hp},dC K _ _ N' H' G ρ'->dC K B0 H0 N' H' G ρ'/\aW N1 (dn N' (own G ρ')):=λt=>⟨s2.unbase t,c4.trans t.based⟩;cases r1 with
   |nx ρ'=>exact λG H' ⟨N',t⟩=>⟨N',ρ',(back t).1,(back t).2,e⟩
   |ct ρ'=>exact λG H' ⟨N',t⟩=>⟨N',ρ',(back t).1,(back t).2,e⟩
   |bk ρ'=>cases e;exact λG H' ⟨N',t⟩=>p G H' ⟨N',(back t).1⟩
   |rt d b=>
    cases e
    intro v H' N' x' i' f';have y:=s2.rebase.ext;have h0:aW H0 (dn H' (λ_=>False)):=λa o e=>by rw[cH (λz=>z)];exact x'.hh _ _ (by
     rw[cH λz=>?_];exact s2.ext.hh _ _ e;obtain⟨_,_,q⟩:=s2.owned z;rw[q]at e;cases e)
    have Xq:aW H0 (dn H' (λ_=>False)):=h0;have hH:aW H0 (dn H' (λ_=>False)):=h0;have hc:∀a,dn H' (λ_=>False) a=H' a:=λa=>cH (λz=>z);have hb:aW H0 (dn _ (own σ ρ)):=λa o e=>by
     rw[cH λz=>?_];exact s2.ext.hh _ _ e;obtain⟨_,_,q⟩:=s2.owned z;rw[q]at e;cases e
    have bb:aW B0 (dn _ (own σ ρ)):=λa o e=>by
     rw[cH λz=>?_];exact s2.ext.bn _ _ e;obtain⟨_,_,q⟩:=s2.owned z;rw[s2.bh _ _ e]at q;cases q
    refine p v H' N' ⟨hb.trans x'.hh,bb.trans x'.bn,x'.nh,λa o e=>?_⟩ i' λz=>(f' z).back hb;rcases x'.new a o e with z|z
    ·exact s2.ext.new a o (bI _ _ z)
    ·exact .inr (hb.free z)
 ·have ei:i=ds.length:=by omega
  subst ei;rw[List.drop_eq_nil_of_le (vT _)]at e;cases e
  exact .inl ⟨j2 (vT _),p σ H ⟨N,s⟩⟩
def He (G:Hd K tg t)(q:lS K (l8 f tg g) E σ H):K1 (Su K f) t (lS K g) E σ H:=by
 obtain⟨B0,H0,ρ,r,⟨N,s⟩,e,p⟩:=q;obtain⟨ds,M,e⟩:=oX e;refine⟨dn N (own σ ρ),eO ρ,ds,bI.trans s.ext.nh,s.repH,M,λJ U N1 O T=>?_⟩;obtain⟨s1,c⟩:=s.growH O;exact xp G s1 c T e p
def P0 (K:Frag)(f:FA):TI:=λσ H R=>∃(B:Hp)(ρ:Env)(ds:LD),aW B H/\fP K B σ ρ/\f ρ=some ds/\∀(J:It)(H' N:Hp),Ext B N H H'->(∀g,nq K J g ds)->R J H'
@[simp] def jT (f:FA)(tg:FG)(g:FS):FS:=λρ=>(f ρ).bind λds=>gp tg g ds ρ
def Ee (G:Hd K tg t)(q:lS K (jT f tg g) E σ H):K1 (P0 K f) t (lS K g) E σ H:=by
 obtain⟨B0,H0,ρ,r,⟨N,s⟩,e,p⟩:=q;obtain⟨ds,M,e⟩:=oX e;refine⟨N,ρ,ds,s.ext.nh,s.rep,M,λJ U N1 O T=>?_⟩;exact xp G (s.grow O) (aW.refl _) (T _) e p
end DL
namespace DL
open PySem PySem.Spec PyProof.Rows L2
abbrev JE (X:Cx)(e:Expr)(f:FE):Prop:=PE X e (tD X.K f)
abbrev JT (X:Cx)(e:Expr)(f:FT):Prop:=PT X e (C8 X.K f)
abbrev JW (X:Cx)(e:Expr)(f:FT):Prop:=PW X e (C8 X.K f)
abbrev JA (X:Cx)(es:QD)(f:FA):Prop:=PA X es (KW X.K f)
abbrev JS (X:Cx)(st:Stmt)(g:FS):Prop:=PS X st (lS X.K g)
abbrev wQ (X:Cx)(st:List Stmt)(g:FS):Prop:=u0 X st (lS X.K g)
abbrev JI (X:Cx)(tg g:Expr)(f:FA):Prop:=PI X tg g (Su X.K f)
def La (M:Model)(A:Around)(G:QD)(O:Expr)(env:PySem.Env)(T:Value)(E:QV)(P:Shared->Prop):Shared->Prop :=
 wpAny M A (forIn G true λc r=>if r=true then do let ok ←isTrue c env (eval c env);pure (ForInStep.yield ok)else pure (ForInStep.yield r))
  (λok g=>if ok=true then wpAny M A (eval O env) (λx=>wpAny M A (call (.builtin "list.append") [T,x]) (λ_=>P) E) E g else P g) E
def vc {E:QV}(hE:∀x s,¬E x s)(I:Nat->Shared->Prop)
  (O:∀n s,I n s->wpAny (model prog w) A (pyNext it) (λr g=>match r with
   |none=>R (.ok .next) g
   |some v=>wpAny (model prog w) A (letOwnedTupleGo A3 it v) (λ_=>wpAny (model prog w) A (assign A3 env v) (λ_=>La (model prog w) A A4 wP env Cm E λs=>∃m,m<n/\I m s) E) E g) E s)
  (n:Nat) (h:I n s):codeAny (model prog w) A (.compLoop (.ListComp wP [⟨A3,gf,A4,0⟩] scope pos) 0 it Cm env) R s:=by
 refine codeAny_loop rfl I (λn s hI=>?_) n h;show wpAny _ A ((compTurn (.ListComp wP [⟨A3,gf,A4,0⟩] scope pos) 0 it Cm env).onRaise (λx=>do noteFrame x env;theTreesLotGoes x)) _ _ s;refine wpAny_noted (wpAny_mono (E:=E) ?_ (λ_ _ q=>q) λ_ _ z=>(hE _ _ z).elim);rw[compTurn_list];refine wX (wpAny_standAt (wX (c8 (O n s hI) λr g G=>?_)));cases r with
 |none=>exact wY G
 |some v=>
  refine wX (c8 G λ_ g G=>wX (c8 G λ_ s₂ T=>wX (c8 T λok s₃ M=>?_)));cases ok with
  |false=>exact wY ⟨rfl,M⟩
  |true=>exact wX (wX (c8 M λx s₄ U=>wX (c8 U λ_ s₅ h₅=>wY (wY ⟨rfl,h₅⟩))))
def Ext.upd (x:Ext B N H H')(h:H a=none)(g:N a=none):Ext B N H (upd H' a o) :=
 ⟨λb u e=>by rw[aJ (λz=>by subst z;rw[h]at e;cases e)];exact x.hh _ _ e,x.bn,λb u e=>by rw[aJ (λz=>by subst z;rw[g]at e;cases e)];exact x.nh _ _ e,x.new⟩
noncomputable abbrev iM (X:Cx)(N':LS)(scope:Scope)(cl:List (Str×Addr))(C:Addr)(g:Shared)(G:Hp)(fp:List Addr):Cx :=
 { X with N:=N',s₀:=g,H₀:=G,env:=compEnvC scope cl C X.env,outer:=X.stack,stack:=X.stack,ex:=fp,fn:=λ_=>false,pn:=[],xe:=λ_ _=>False }
inductive mT (X:Cx)(N':List Str)(scope:Scope)(cl:List (Str×Addr)):Nat->List Nat->Prop where
 |nil {j:Nat}(h:N'.length=j):mT X N' scope cl j []
 |cons {j i:Nat}{r:List Nat}{x:Str}(h1:N'[j]? = some x) (h2:X.N[i]? = some x) (h3:X.env.kindOf x=some .cell∨X.env.kindOf x=some .free)
   (h4:(relabel scope X.env).names.lookup x=some .cell∨(relabel scope X.env).names.lookup x=some .free) (h5:cl.lookup x=X.env.cells.lookup x) (t:mT X N' scope cl (j+1) r):mT X N' scope cl j (i::r)
theorem mT.len:∀ {j:Nat}{cap:LN},mT X N' scope cl j cap->N'.length=j+cap.length
 |_,_,.nil h=>by rw[h];rfl
 |j,i::r,.cons _ _ _ _ _ t=>by rw[t.len,vE];omega
theorem mT.get:∀ {j:Nat}{cap:LN}{k i:Nat},mT X N' scope cl j cap->cap[k]? = some i->∃x,N'[j+k]? = some x/\X.N[i]? = some x/\(X.env.kindOf x=some .cell∨X.env.kindOf x=some .free) /\
  ((relabel scope X.env).names.lookup x=some .cell∨(relabel scope X.env).names.lookup x=some .free)/\cl.lookup x=X.env.cells.lookup x
 |_,_,_,_,.nil _,e=>by simp at e
 |j,_,0,_,.cons h1 h2 h3 h4 h5 _,e=>by simp at e;subst e;exact⟨_,h1,h2,h3,h4,h5⟩
 |j,_,k+1,i,.cons _ _ _ _ _ t,e=>by
  obtain⟨x,q,r⟩:=t.get (k:=k) (i:=i) (by simpa using e);exact⟨x,by rw[show j+(k+1)=j+1+k by omega];exact q,r⟩
structure CompSc (X:Cx)(scope:Scope)(cl:List (Str×Addr)):Prop where
 clos:closureFor scope X.env=pure cl
 nocell:∀y∈scope.names,y.2≠.cell
 kind:scope.kind=.function
 names:∀y∈scope.names,y.2=.local->scope.names.lookup y.1=some .local
 sub:∀x c,cl.lookup x=some c->X.env.cells.lookup x=some c
 has:∀x,((relabel scope X.env).names.lookup x=some .cell∨(relabel scope X.env).names.lookup x=some .free)->∃c,cl.lookup x=some c
noncomputable def dG:List (Str×NameKind)->List (Str×Addr)->List (Str×Addr)->List (Str×Addr)
 |[],_,cs=>cs
 | (n,k)::r,cells,cs=>dG r cells (if k == .free then (match cells.lookup n with|some c=>(n,c)::cs|none=>cs)else cs)
def tm:∀(names:List (Str×NameKind))(cs:List (Str×Addr)),(∀y∈names,y.2=.free->(env.cells.lookup y.1).isSome=true) ->
    (do let mut cs:=cs
        for (name,kind)in names do
          if kind == .free then cs:=(name,←cellOf env name)::cs
        return cs:Sem (List (Str×Addr)))=pure (dG names env.cells cs):=by
  intro names;induction names with
  |nil=>intro cs _;rfl
  |cons y r M=>
    intro cs h;obtain⟨n,k⟩:=y;have g:=λcs=>M cs λy hy=>h y (mZ _ hy);by_cases hk:k=.free
    . subst hk;have hc:=h (n,.free) mX rfl;cases q:env.cells.lookup n with
      |none=>rw[q]at hc;cases hc
      |some c=>
        have G:dG ((n,.free)::r) env.cells cs=dG r env.cells ((n,c)::cs):=by
          rw[dG,q];rfl
        rw[G,←g ((n,c)::cs)];have e2:cellOf env n=pure c:=by unfold cellOf;rw[q]
        simp only[List.forIn_cons,beq_self_eq_true,if_true,e2];rfl
    . have hb:(k == NameKind.free)=false:=by simpa using hk
      have G:dG ((n,k)::r) env.cells cs=dG r env.cells cs:=by rw[dG,hb];rfl
      rw[G,←g cs];simp only[List.forIn_cons,hb,uV,if_false];rfl
theorem ma:∀(names:List (Str×NameKind))(cs:List (Str×Addr)),(∀y d,cs.lookup y=some d->cells.lookup y=some d)->(dG names cells cs).lookup x=some c->cells.lookup x=some c
 |[],cs,h,e=>h x c e
 | (n,k)::r,cs,h,e=>by
  rw[dG]at e;refine ma r _ (λy d q=>?_) e;split at q
  ·split at q
   ·rename_i G g;rw[lookup_cons]at q;split at q
    ·rename_i hy;cases q
     rw[eq_of_beq hy];exact g
    ·exact h y d q
   ·exact h y d q
  ·exact h y d q
theorem tp:∀(names:List (Str×NameKind))(cs:List (Str×Addr)),(cs.lookup x).isSome=true->((dG names cells cs).lookup x).isSome=true
 |[],cs,h=>h
 | (n,k)::r,cs,h=>by
  rw[dG];refine tp r _ ?_;split
  ·split
   ·rw[lookup_cons];split
    ·rfl
    ·exact h
   ·exact h
  ·exact h
theorem mf:∀(names:List (Str×NameKind))(cs:List (Str×Addr)),(x,NameKind.free)∈names->(cells.lookup x).isSome=true->((dG names cells cs).lookup x).isSome=true
 | (n,k)::r,cs,hm,hc=>by
  rw[dG];rcases vP hm with e|e
  ·cases e
   refine tp r _ ?_;cases q:cells.lookup x with
   |none=>rw[q]at hc;cases hc
   |some c=>simp
  ·exact mf r _ e hc
theorem fU {α:Type}{x:Str}{k:α}:∀ {l:List (Str×α)},l.lookup x=some k->(x,k)∈l
 | (n,j)::r,h=>by
  rw[lookup_cons]at h;split at h
  ·rename_i e;cases h
   rw[eq_of_beq e];exact mX
  ·exact mZ _ (fU h)
def Lb {X:Cx}{scope:Scope}(h1:∀y∈scope.names,y.2≠.cell)(h2:scope.kind=.function)(h3:∀y∈scope.names,y.2=.local->scope.names.lookup y.1=some .local)(g:(scope.names.all λy=>!(y.2 == NameKind.free) || (X.env.cells.lookup y.1).isSome)=true):
  CompSc X scope (dG scope.names X.env.cells []):=by
 have h4:∀y∈scope.names,y.2=.free->(X.env.cells.lookup y.1).isSome=true:=λy hy e=>by
  have:=uR g y hy;rw[e]at this;simpa using this
 have frees:∀x,((relabel scope X.env).names.lookup x=some .cell∨(relabel scope X.env).names.lookup x=some .free)->(x,NameKind.free)∈scope.names:=λx h=>by
  have:∃k,(x,k)∈(relabel scope X.env).names/\(k=.cell∨k=.free):=by
   rcases h with h|h
   ·exact⟨_,fU h,.inl rfl⟩
   ·exact⟨_,fU h,.inr rfl⟩
  obtain⟨k,hm,hk⟩:=this;obtain⟨⟨n,j⟩,hj,e⟩:=vO hm;dsimp only at e;split at e
  ·rename_i hc;rw[vC,vC]at hc;cases e
   rw[←eq_of_beq hc.1.1];exact hj
  ·cases e
   rcases hk with rfl|rfl
   ·exact absurd rfl (h1 _ hj)
   ·exact hj
 exact⟨tm scope.names [] h4,h1,h2,h3,λx c e=>ma scope.names [] (λy d q=>by cases q) e,λx h=>by
  have:=mf (x:=x) scope.names [] (frees x h) (h4 _ (frees x h) rfl);exact uU this⟩
def oW {scope:Scope}{cells:List (Str×Addr)}{x:Str}(h:(x,NameKind.free)∈scope.names)(hc:(cells.lookup x).isSome=true):(dG scope.names cells []).lookup x=cells.lookup x:=by
 obtain⟨c,e⟩:=uU (mf (x:=x) scope.names [] h hc);rw[e,ma scope.names [] (λy d q=>by cases q) e]
noncomputable def sj (nT:Nat)(cap:LN)(σ:St):St:=List.replicate nT none++cap.map λi=>(σ[i]?).join
noncomputable def dB (nT:Nat)(cap:LN)(ρ:Env):Env:=List.replicate nT none++cap.map λi=>match ρ[i]? with|some (some (d,_))=>some (d,false)|_=>none
def ve {α:Type}{nT:Nat}{cap:LN}{f:Nat->Option α}{j:Nat}{v:α}(h:(List.replicate nT none++cap.map f)[j]? = some (some v)):∃k i,j=nT+k/\cap[k]? = some i/\f i=some v:=by
 by_cases hj:j<nT
 ·rw[getElem?_append_left (by simpa using hj),getElem?_replicate,if_pos hj]at h;cases h
 ·rw[List.getElem?_append_right (by simpa using Nat.not_lt.mp hj),length_replicate,vA]at h;obtain⟨i,h1,h2⟩:=oY h;exact⟨j - nT,i,by omega,h1,h2⟩
def Hf {α:Type}{nT:Nat}{cap:LN}{f:Nat->Option α}{k i:Nat}{v:α}(h1:cap[k]? = some i)(h2:f i=some v):(List.replicate nT none++cap.map f)[nT+k]? = some (some v):=by
 rw[List.getElem?_append_right (by simp),length_replicate,vA,Nat.add_sub_cancel_left,h1];simp[h2]
def fP.caps {K:Frag}{B:Hp}{σ:St}{ρ:Env}{nT:Nat}{cap:LN}(h:fP K B σ ρ):fP K B (sj nT cap σ) (dB nT cap ρ):=⟨h.tb,λj d b q=>by
 obtain⟨k,i,rfl,h1,h2⟩:=ve q;split at h2
 ·rename_i d' b' e;cases h2
  obtain⟨v,g1,g⟩:=h.at' i _ _ e;exact⟨v,Hf h1 (by rw[g1];rfl),g⟩
 ·cases h2⟩
noncomputable def gL (tg:FG)(c:FT)(fe:FE)(ρ:Env):LD->Option LD
 |[]=>some []
 |d::r=>(tg d ρ).bind λg=>(c g).bind λb=>if b=true then (fe g).bind λx=>(gL tg c fe ρ r).map (x.1 :: ·)else gL tg c fe ρ r
@[simp] def M9 (tg:FG)(c:FT)(fe:FE)(ρ:Env):gL tg c fe ρ []=some []:=by rw[gL]
@[simp] def zI (tg:FG)(c:FT)(fe:FE)(ρ:Env)(d:D)(r:LD):gL tg c fe ρ (d::r)=(tg d ρ).bind λg=>(c g).bind λb=>if b=true then (fe g).bind λx=>(gL tg c fe ρ r).map (x.1 :: ·)else gL tg c fe ρ r:=by rw[gL]
@[simp] def bD (fi:FA)(nT:Nat)(cap:LN)(tg:FG)(c:FT)(fe:FE):FE:=λρ=>(fi ρ).bind λitems=>if items.length<=sizeLine then (gL tg c fe (dB nT cap ρ) items).map λds=>(.lst ds,true)else none
def Js (K:Frag)(n:Nat)(tg:FG)(g:TG):Prop:=∀(B H:Hp)(σ:St)(ρ M:Env)(v:V)(d:D)(Q:St->Hp->Prop),(∀i,i<n->ρ[i]? = some none)->fP K B σ ρ->aW B H->Is K B v d->tg d ρ=some M ->
 ρ.length=σ.length->(∀G,fP K B G M->(∀O,fP K O σ ρ->fP K O G ρ)->ρ.length=G.length->Q G H)->g v σ H Q
def xq {K:Frag}{n i:Nat}(hi:i<n):Js K n (cB i) (jd i):=by
 intro B H σ ρ M v d Q cl rep s h e hl k;cases e
 have G:i<σ.length:=by
  have:=(vV (cl i hi)).1;omega
 refine k _ ⟨rep.tb,λj e b q=>?_⟩ ?_ (by simpa using hl)
 ·rcases ca q with⟨rfl,p⟩|⟨ne,p⟩
  ·cases p
   exact⟨v,by simp[G],h⟩
  ·obtain⟨w,h1,h2⟩:=rep.at' j e b p;exact⟨w,by rw[vB ne];exact h1,h2⟩
 ·intro O g;refine⟨g.tb,λj e b q=>?_⟩;obtain⟨w,h1,h2⟩:=g.at' j e b q;have ne:i≠j:=λz=>by subst z;rw[cl i hi]at q;cases q
  exact⟨w,by rw[vB ne];exact h1,h2⟩
def JC (X:Cx)(g:QD)(c:FT):Prop:=∀(ae:AO)(s:Shared)(σ:St)(H:Hp)(Q:Bool->Hp->Prop),Inv X ae σ H s->C8 X.K c σ H Q ->
 wq X (forIn g true λc r=>if r=true then do let ok ←isTrue c X.env (eval c X.env);pure (ForInStep.yield ok)else pure (ForInStep.yield r)) (TP X ae σ Q) X.xe s
@[simp] noncomputable def fE:FT:=λ_=>some true
def iN:JC X [] fE:=by
 intro ae s σ H Q I h;obtain⟨B,ρ,c,g,rep,e,q⟩:=h;cases e
 exact wpAny_tests_nil ⟨H,I,q H (.refl H)⟩
def dH (h:JT X e f):JC X [e] f:=λae s σ H Q I q=>wpAny_tests_one (h ae s σ H Q I q)
inductive CI (Y:Cx)(tn:Nat->Heap->Prop)(fp:List Addr)(N1 H2:Hp)(κ:Env)(a:Addr)(l:List D->Option (List D))(items ds:List D)(s:Shared):Nat->Prop
 |mk (i:Nat) (N:Hp) (vs:List V) (es r:List D) (σ:St) (H:Hp) (I:Inv Y [] σ H s) (ti:tn i s.heap) (hn:∀b∈fp,H b=none) (hi:i<=items.length) (rp:fP Y.K N1 σ κ) (hl:κ.length=σ.length)
   (x:Ext N1 N H2 H) (n0:N a=none) (h0:H a=some (.lst vs)) (vl:vs.length<=i) (iv:IsL Y.K N vs es) (er:l (items.drop i)=some r) (ed:es++r=ds):CI Y tn fp N1 H2 κ a l items ds s (items.length - i)
def Ext.both (x:Ext N1 N H2 H)(y:Ext N1 N' H H'):Ext N (join N N') H H'/\aW N' (join N N'):=by
 refine⟨⟨y.hh,eG,λa o e=>?_,λa o e=>?_⟩,λa o e=>?_⟩
 ·cases z:N a with
  |some g=>rw[eG _ _ z]at e;cases e;exact y.hh _ _ (x.nh _ _ z)
  |none=>rw[eA z]at e;exact y.nh _ _ e
 ·cases z:N a with
  |some g=>rw[eG _ _ z]at e;cases e;exact .inl rfl
  |none=>
   rw[eA z]at e;exact(y.new a o e).elim (λG=>by rw[x.bn _ _ G]at z;cases z) .inr
 ·exact(y.new a o e).elim (λz=>eG _ _ (x.bn _ _ z)) λz=>by rw[eA (x.nh.free z)];exact e
def Ext.off (x:Ext B N H H')(h:B a=none)(h':H a=some o):N a=none:=by
 cases z:N a with
 |none=>rfl
 |some u=>
  rcases x.new _ _ z with z|z
  ·rw[h]at z;cases z
  ·rw[h']at z;cases z
def C9 {Y:Cx}(O:Y.calm=true)(hE:∀x s,¬Y.xe x s)(hg:PG Y tg g)(O9:Js Y.K nT p7 g)(hc:JC Y A4 fc)(he:JE Y wP fe)(T:Turn Y.prog Y.w Y.K tg J fp it tn)(OA:∀i,i<nT->κ[i]? = some none)
  (J1:nq Y.K J N1 items) (hsz:items.length<=sizeLine) (hD:H2 a=none) (Ra:∀H',(∀b∈fp,H' b=none)->∀b∈fp,mW Y [] H' b)
  (hR:∀s4 M H' N vs,Inv Y [] M H' s4->Ext N1 N H2 H'->N a=none->H' a=some (.lst vs)->IsL Y.K N vs ds->R (.ok .next) s4) (h:CI Y tn fp N1 H2 κ a (gL p7 fc fe κ) items ds s items.length):
  codeAny (model Y.prog Y.w) Y.A (.compLoop (.ListComp wP [⟨tg,gf,A4,0⟩] scope pos) 0 (.ref it) (.ref a) Y.env) R s:=by
 refine vc hE (λn s=>CI Y tn fp N1 H2 κ a (gL p7 fc fe κ) items ds s n) (λn s' h=>?_) _ h;obtain⟨i,N,vs,es,r,M,H',I',ti,hn,hi,rp,jP,x,PF,OC,JU,OD,er,PH⟩:=h;have sH:aW N1 H':=x.bn.trans x.nh;by_cases Cn:i<items.length
 ·obtain⟨go,yl⟩:=(J1 i H' sH).1 items[i] (by simp[Cn]);refine c8 (T.item Y rfl rfl rfl O i [] s' M H' Y.xe I' (Ra _ hn) ti go) λq s4 ⟨u,eu,hq⟩=>?_;subst eu;refine c8 hq λ_ s5 ⟨xv,H5,I5,rx,y5,t5,QU⟩=>?_;obtain⟨N5,x5,i5⟩:=yl xv H5 y5;obtain⟨x6,c5⟩:=x.both x5;have SW:(join N N5) a=none:=x6.off PF OC;have PJ:aW (join N N5) H5:=x6.nh;rw[List.drop_eq_getElem_cons Cn]at er;unfold gL at er;obtain⟨ρ1,e1,er⟩:=oX er;obtain⟨b,e2,er⟩:=oX er;have iC:∀(s9:Shared)(U:St)(H9 N9:Hp)(OE:LV)(PK r9:LD),Inv Y (nc fp s5.heap) U H9 s9->fP Y.K N1 U κ->κ.length=U.length->Ext N1 N9 H2 H9->N9 a=none->H9 a=some (.lst OE) ->
    OE.length<=i+1->IsL Y.K N9 OE PK->gL p7 fc fe κ (items.drop (i+1))=some r9->PK++r9=ds->∃m,m<items.length - i/\CI Y tn fp N1 H2 κ a (gL p7 fc fe κ) items ds s9 m:=λs9 U H9 N9 OE PK r9 I9 Vm l9 x9 n9 h9 v9 i9 Vn Vo=>
   ⟨_,by omega,i+1,N9,OE,PK,r9,U,H9,I9.pins_of λp hp=>by simp at hp,T.keep _ _ _ t5 λb hb o e=>(I9.pin (b,o) (mY _ (j3 hb e))).1,λb hb=>by
    obtain⟨o,e,d⟩:=T.obj _ _ t5 b hb;exact(I9.pin (b,o) (mY _ (j3 hb e))).2.1,Cn,Vm,l9,x9,n9,h9,v9,i9,Vn,Vo⟩
  refine c8 (hg (nc fp s5.heap) s5 M H5 xv u (λG H6=>H6=H5/\fP Y.K (join N N5) G ρ1/\fP Y.K N1 G κ/\κ.length=G.length) (I5.pinned (Ra _ QU) (T.obj _ _ t5)) rx
   (O9 (join N N5) H5 M κ ρ1 xv items[i] _ OA (rp.mono (x.bn.trans eG)) PJ (i5.mono c5) e1 jP λσ1 r1 r2 l1=>⟨rfl,r1,r2 N1 rp,l1⟩)) λ_ s6 ⟨G,H6,I6,eH,SX,SY,l6⟩=>?_
  subst eH;have Rb:H6 a=some (.lst vs):=x5.hh _ _ OC;refine c8 (hc _ s6 G H6 (λc H7=>c=b/\aW H6 H7) I6 ⟨join N N5,ρ1,b,PJ,SX,e2,λH7 h7=>⟨rfl,h7⟩⟩) λok s7 ⟨H7,I7,eb,h7⟩=>?_;subst eb;have x7:Ext N1 (join N N5) H2 H7:=(x.trans x6).trans (.grow PJ h7);cases ok with
  |false=>
   rw[if_neg (by decide)]at er ⊢;exact iC s7 G H7 (join N N5) vs es r I7 SY l6 x7 SW (h7 _ _ Rb) (le_succ_of_le JU) (OD.mono eG) er PH
  |true=>
   rw[if_pos rfl]at er ⊢;obtain⟨y,e3,er⟩:=oX er;obtain⟨r',e4,er⟩:=oY er;subst er;refine c8 (he _ s7 G H7 (λv H8=>∃N8,Ext (join N N5) N8 H7 H8/\Is Y.K N8 v y.1) I7 ⟨join N N5,ρ1,y.1,y.2,PJ.trans h7,SX,e3,λv H8 N8 x8 i8 _=>⟨N8,x8,i8⟩⟩) λw8 s8 ⟨v8,H8,I8,r8,N8,x8,i8⟩=>?_;refine c8 (nn _ s8 G H8 (.ref a) [v8] (.ref a) [w8] (λ_ H9=>H9=upd H8 a (.lst (vs++[v8]))) I8 rfl (.cons r8 .nil) ⟨_,vs,v8,rfl,rfl,x8.hh _ _ (h7 _ _ Rb),by omega,rfl⟩) λ_ s9 ⟨_,H9,I9,_,e9⟩=>?_;subst e9;have Ta:=x8.off SW (h7 _ _ Rb);exact iC s9 G _ N8 (vs++[v8]) (es++[y.1]) r' I9 SY l6 ((x7.trans x8).upd hD Ta) Ta aC (by rw[uZ,length_singleton];omega) ((OD.mono (eG.trans x8.bn)).append (.cons i8 .nil)) e4 (by rw[append_assoc];exact PH)
 ·obtain rfl:i=items.length:=by omega
  rw[List.drop_eq_nil_of_le (vT _)]at er;cases er
  rw[uQ]at PH;subst PH;refine c8 (T.done Y rfl rfl rfl O items.length [] s' M H' Y.xe I' (Ra _ hn) ti ((J1 _ H' sH).2 (vT _))) λq s4 ⟨hq,I9⟩=>?_;subst hq;exact hR s4 M H' N vs I9 x PF OC OD
def pM {X:Cx}(OF:X.calm=true){tg gf wP:Expr}{A4:QD}{scope:Scope}{pos:Pos}{cl:List (Str×Addr)}{N':LS}{nT:Nat}{cap:LN}{p7:FG}{g:TG}{fc:FT}{fe:FE}
  (S:CompSc X scope cl) (cp:mT X N' scope cl nT cap)
  (hg:∀C s H fp,PG (iM X N' scope cl C s H fp) tg g) (O9:Js X.K nT p7 g) (hc:∀C s H fp,JC (iM X N' scope cl C s H fp) A4 fc) (he:∀C s H fp,JE (iM X N' scope cl C s H fp) wP fe)
  {ae:AO}{σ:St}{H2:Hp}{s2:Shared}{it:Addr}{fp:List Addr}{tn:Nat->Heap->Prop}{J:It}{N1:Hp}{ρ:Env}{items ds:LD}{E:QV}
  (I2:Inv X ae σ H2 s2) (T:Turn X.prog X.w X.K tg J fp it tn) (Ja:tn 0 s2.heap) (f2:∀b∈fp,mW X ae H2 b)
  (rep:fP X.K N1 σ ρ) (sN:aW N1 H2) (J1:nq X.K J N1 items) (hsz:items.length<=sizeLine) (ec:gL p7 fc fe (dB nT cap ρ) items=some ds) {RR:Value->Addr->Result->Shared->Prop}
  (Vp:∀(Dd C:Addr)(s':Shared)(H' N:Hp)(vs:LV)(m:SV),H2 Dd=none->Inv X ae σ H' s'->s'.heap.Ns C m->mW X ae H' C->Ext N1 N H2 H'->N Dd=some (.lst vs)->IsL X.K N vs ds->RR (.ref Dd) C (.ok .next) s'):
  wq X (newList []) (λCm U=>wq X (newFunctionEnv scope X.env.globals cl [] X.env.qual none .none (some X.env)) (λOG s₄=>
   codeAny (model X.prog X.w) X.A (.compStart (.ListComp wP [⟨tg,gf,A4,0⟩] scope pos) 0 (.ref it) Cm { OG with scope:=relabel scope X.env }) (RR Cm OG.locals) s₄) E U) E s2:=by
 refine wpAny_newObj_type (wpAny_newFunctionEnv S.nocell (by intro y hy;simp at hy) (λh₁ M O=>?_) S.kind);dsimp only at M O ⊢;have hD:H2 s2.heap.objs.size=none:=I2.fresh;have I3:Inv X ae σ (upd H2 s2.heap.objs.size (.lst [])) { s2 with heap:=s2.heap.push { cls:=.type "list",dict:=none,data:=.seq ([]:LU).toArray } }:=I2.lnew (t':=s2.toks) (ys:=[]) (its:=[]) .nil (uN _);generalize hH3:s2.heap.push { cls:=.type "list",dict:=none,data:=.seq ([]:LU).toArray }=g3 at M O I3 ⊢;have hC:g3.objs.size=s2.heap.objs.size+1:=by rw[←hH3,Heap.size_push]
 have Jc:∀b o,s2.heap.get? b=some o->g3.get? b=some o:=λb o e=>hH3 ▸ vZ _ e;have G:∀b o,g3.get? b=some o->h₁.get? b=some o:=λb o e=>O.extBut b o (vS (vX e)) (vZ _ e);have Vq:∀b o,g3.get? b=some o->b≠g3.objs.size:=λb o e=>vS (vX e);have Tc:∀b∈fp,∃o,s2.heap.get? b=some o:=λb hb=>let ⟨o,e,_⟩:=T.obj 0 s2.heap Ja b hb;⟨o,e⟩;have Vr:∀b∈fp,b≠s2.heap.objs.size:=λb hb=>let ⟨o,e⟩:=Tc b hb;vS (vX e);have Td:∀b∈fp,b≠g3.objs.size:=λb hb=>let ⟨o,e⟩:=Tc b hb;Vq b o (Jc b o e);have Te:∀x c,X.env.cells.lookup x=some c->c≠g3.objs.size:=λx c e=>by
  obtain⟨v,z⟩:=I3.cell x c e;exact vS z.lt
 have Vs:(upd H2 s2.heap.objs.size (HO.lst [])) g3.objs.size=none:=I3.hok.fresh (vT _);have stk:∀b∈D8 X.stack,∃o,s2.heap.get? b=some o:=λb hb=>by
  obtain⟨_,o,ho,_⟩:=(I2.stack).mem hb;exact⟨o,ho⟩
 -- the block's context
 let Y:Cx:=iM X N' scope cl g3.objs.size { s2 with heap:=g3 } (upd H2 s2.heap.objs.size (.lst [])) fp;have ok:Y.Ok:=by
  refine⟨I2.ok.mod,?_,I2.ok.glob,I2.ok.blt,vT _,λx y c e1 e2=>I2.ok.inj x y c (S.sub x c e1) (S.sub y c e2),λx h=>S.has x h,λx c h=>absurd h uX,I2.ok.hd,I2.ok.frames,.inl rfl,λb hb=>⟨Td b hb,λx c e=>(f2 b hb).2.2.2.2.1 x c (S.sub x c e)⟩,λb o e=>?_,?_,λb o e hb=>?_,λb hb hz=>?_,I3.stack,λb hb=>I3.stkFree b hb⟩
  ·show(relabel scope X.env).kind=.function;exact S.kind
  ·exact I3.bs b o e
  ·exact vR I3.ok.bsz I3.sz
  ·have h1:=(f2 b hb).2.2.2.1;rcases h1 with z|z
   ·exact I2.ok.noex b o e z
   ·exact absurd (vQ (vX e) (vR I2.ok.bsz z)) (Nat.lt_irrefl _)
  ·rcases vP (I2.stkSub b hz)with z|z
   ·exact(f2 b hb).2.1 z
   ·exact(f2 b hb).2.2.1 z
 have I4:Inv Y [] (sj nT cap σ) (upd H2 s2.heap.objs.size (.lst [])) { s2 with heap:=h₁,toks:=s2.toks+([]:List (Str×Value)).length }:=by
  refine⟨ok,rfl,I2.bare,Un.kept G,⟨_,M,λj x v e1 e2 e3=>?_⟩,λx c e=>?_,Vs,λx c e=>I3.freeC x c (S.sub x c e),λp hp=>absurd (show p∈[]from hp) not_mem_nil,I3.hok.kept G,?_⟩
  ·obtain⟨k,i,rfl,h1,h2⟩:=ve e2;obtain⟨y,g1,g2,Tf,g4,g5⟩:=cp.get h1;have Tg:N'[nT+k]? = some x:=e1;rw[g1]at Tg;cases Tg;have MH:σ[i]? = some (some v):=by
    cases q:σ[i]? with
    |none=>rw[q]at h2;cases h2
    |some z=>rw[q]at h2;have:z=some v:=h2;rw[this]
   obtain⟨m,_,hl⟩:=I3.loc;obtain⟨u,r,l⟩:=hl i _ v g2 MH (Tf.elim (λz=>.inr (.inl z)) λz=>.inr (.inr z));refine⟨u,r,?_⟩;rcases l with⟨l,_⟩|⟨_,c,lc,ic⟩
   ·rcases Tf with z|z<;>(rw[z]at l;cases l)
   ·refine .inr ⟨g4,c,by show cl.lookup _=some c;rw[g5];exact lc,?_⟩;obtain⟨o,ho,hd⟩:=ic;exact⟨o,G _ _ ho,hd⟩
  ·obtain⟨v,o,ho,hd⟩:=I3.cell x c (S.sub x c e);exact⟨v,o,G _ _ ho,hd⟩
  ·show(sj nT cap σ).length=N'.length;unfold sj;rw[cp.len];simp
 have loop:∀U:Shared,U={ s2 with heap:=h₁,toks:=s2.toks+([]:List (Str×Value)).length }->codeAny (model Y.prog Y.w) Y.A (.compLoop (.ListComp wP [⟨tg,gf,A4,0⟩] scope pos) 0 (.ref it) (.ref s2.heap.objs.size) Y.env) (RR (.ref s2.heap.objs.size) g3.objs.size) U:=by
  rintro U rfl;refine C9 (Y:=Y) OF (λ_ _ z=>z) (hg _ _ _ _) O9 (hc _ _ _ _) (he _ _ _ _) T (λi hi=>?_) J1 hsz hD (λH' hn b hb=>⟨hn b hb,Td b hb,ok.exfs b hb,.inl hb,λx c e=>(f2 b hb).2.2.2.2.1 x c (S.sub x c e),λp hp=>absurd (show p∈[]from hp) not_mem_nil⟩) (λs4 σ' H' N vs I9 x PF OC OD=>?_)
   ⟨0,N1,[],[],ds,sj nT cap σ,_,I4,T.keep _ _ _ Ja λb hb o e=>G _ _ (Jc _ _ e),λb hb=>?_,uN _,rep.caps,?_,(Ext.refl sN).upd hD (sN.free hD),sN.free hD,aC,uN _,.nil,by simpa using ec,rfl⟩
  ·unfold dB;rw[getElem?_append_left (by simpa using hi),getElem?_replicate,if_pos hi]
  ·obtain⟨m,hm,_⟩:=I9.loc;have k:aW N (upd N s2.heap.objs.size (.lst vs)):=λa o e=>by rw[aJ (λz=>by subst z;rw[PF]at e;cases e)];exact e
   refine Vp s2.heap.objs.size g3.objs.size s4 H' (upd N s2.heap.objs.size (.lst vs)) vs m hD (I2.call' (ch:=fp) I9.os ((Un.laid Jc (vT _) hD).trans I9.base) I9.hok I9.bare λb hb=>⟨(f2 b hb).2.2.2.1,(f2 b hb).2.1,(f2 b hb).2.2.2.2.1,(f2 b hb).2.2.2.2.2⟩) hm (I2.fpOk (by rw[hC];exact le_succ _) I9.free) ⟨x.hh,x.bn.trans k,λa o e=>?_,λa o e=>?_⟩ aC (OD.mono k)
   ·by_cases z:a=s2.heap.objs.size
    ·subst z;rw[aC]at e;cases e;exact OC
    ·rw[aJ z]at e;exact x.nh _ _ e
   ·by_cases z:a=s2.heap.objs.size
    ·subst z;exact .inr hD
    ·rw[aJ z]at e;exact x.new _ _ e
  ·rw[aJ (Vr b hb)];exact(f2 b hb).1
  ·unfold dB sj;simp
 exact codeAny_compStart_list (loop _ rfl) (T.self _ 0 _ _ _ (T.keep _ _ _ Ja λb hb o e=>G _ _ (Jc _ _ e)) (loop _ rfl))
def Hg (G:X.calm=true) 
  (S:CompSc X scope cl) (cp:mT X N' scope cl nT cap) (hi:JI X tg gf fi)
  (hg:∀C s H fp,PG (iM X N' scope cl C s H fp) tg g) (O:Js X.K nT p7 g) (hc:∀C s H fp,JC (iM X N' scope cl C s H fp) A4 fc) (he:∀C s H fp,JE (iM X N' scope cl C s H fp) wP fe)
  (hs:∀x,foldedSetIterable gf X.env x=pure x:=by intro _;rfl):
  JE X (.ListComp wP [⟨tg,gf,A4,0⟩] scope pos) (bD fi nT cap p7 fc fe):=by
 intro ae s σ H Q I h;obtain⟨B,ρ,d,b,sB,rep,e,q⟩:=h;obtain⟨items,ei,e⟩:=oX e;have hsz:items.length<=sizeLine:=Decidable.byContradiction λz=>by rw[if_neg z]at e;cases e
 rw[if_pos hsz]at e;obtain⟨ds,ec,e⟩:=oY e;cases e
 rw[eval_ListComp];refine wpAny_comprehension_free (use:=none) rfl hs S.clos S.kind S.names (c8 (hi ae s σ H (λJ H2=>∃N1,Ext B N1 H H2/\nq X.K J N1 items) I ⟨B,ρ,items,sB,rep,ei,λJ H2 N1 M U=>⟨N1,M,U⟩⟩) λv s1 h1=>c8 h1 λSQ s2 h2=>?_);obtain⟨it,fp,tn,J,H2,e,I2,T,Ja,f2,N1,M,U⟩:=h2;subst e;refine pM G S cp hg O hc he I2 T Ja f2 (rep.mono M.bn) M.nh U hsz ec (RR:=λCm C=>compPost (model X.prog X.w) X.A X.xe none (EP X ae σ Q) Cm C) ?_;intro Dd C s' H' N vs m hD I' hm fC x hN hl;refine⟨m,hm,λh' hs'=>⟨.ref Dd,H',?_,rfl,q _ H' N (M.trans x) (.lst (gP.of hN) hl) λ_=>⟨Dd,vs,ds,rfl,rfl,M.hh.free hD,hN,hl⟩⟩⟩;obtain⟨c0,c1,c2,c3,c4,c5⟩:=fC;exact I'.turned (t':=s'.toks) (λb o hb e=>(hs'.2 b hb).trans e) c0 c1 c3 c4 c5
def Hh (M:X.calm=true) 
  (hN:X.N.Nodup) (Vt:X.N[i]? = some y) (hy:X.env.kindOf y=some .local)
  (Rc:swapsWith (.ListComp wP [⟨tg,G,O,0⟩] scope pos) (some (.Name y py)) spos.line X.env=pure true)
  (S:CompSc X scope cl) (cp:mT X N' scope cl nT cap) (hi:JI X tg G fi)
  (hg:∀C s H fp,PG (iM X N' scope cl C s H fp) tg g) (O9:Js X.K nT p7 g) (hc:∀C s H fp,JC (iM X N' scope cl C s H fp) O fc) (he:∀C s H fp,JE (iM X N' scope cl C s H fp) wP fe)
  (hs:∀x,foldedSetIterable G X.env x=pure x:=by intro _;rfl):
  JS X (.Assign [.Name y py] (.ListComp wP [⟨tg,G,O,0⟩] scope pos) spos) (aO i (bD fi nT cap p7 fc fe)):=by
 intro ae s σ H E I h;have h2:uA (tD X.K (bD fi nT cap p7 fc fe)) (jd i) E σ H:=AF h;obtain⟨B,ρ,d,b,sB,rep,e,q⟩:=h2;obtain⟨items,ei,e⟩:=oX e;have hsz:items.length<=sizeLine:=Decidable.byContradiction λz=>by rw[if_neg z]at e;cases e
 rw[if_pos hsz]at e;obtain⟨ds,ec,e⟩:=oY e;cases e
 rw[exec_Assign_Name_used _ _ _ _ Rc];refine wX (wpAny_standAt (wX ?_));show wpAny _ _ (do let _ ←comprehension (.ListComp wP [⟨tg,G,O,0⟩] scope pos) scope X.env _ (newList []) false (eval G X.env) (some (assign (.Name y py) X.env))) _ _ s;refine wX (wpAny_mono (wpAny_comprehension_free (use:=some (assign (.Name y py) X.env)) (Q:=λ_ s'=>SP X ae E .next s') rfl hs S.clos S.kind S.names
  (c8 (hi ae s σ H (λJ H2=>∃N1,Ext B N1 H H2/\nq X.K J N1 items) I ⟨B,ρ,items,sB,rep,ei,λJ H2 N1 U j1=>⟨N1,U,j1⟩⟩) λv s1 h1=>c8 h1 λSQ s2 h2=>?_)) (λ_ s' hq=>wY (wY hq)) λ_ _ e=>e)
 obtain⟨it,fp,tn,J,H2,e,I2,T,Ja,f2,N1,U,j1⟩:=h2;subst e;refine pM M S cp hg O9 hc he I2 T Ja f2 (rep.mono U.bn) U.nh j1 hsz ec (RR:=λCm C=>compPost (model X.prog X.w) X.A X.xe (some (assign (.Name y py) X.env)) (λ_ s'=>SP X ae E .next s') Cm C) ?_;intro Dd C s' H' N vs m hD I' hm fC x Th hl;show wpAny _ _ (assign (.Name y py) X.env (.ref Dd)) _ _ s';obtain⟨c0,c1,c2,c3,c4,c5⟩:=fC;refine wpAny_assign_Name (sP I' hN Vt (.inl hy) (r:=show aU (.ref Dd) (.ref Dd)from rfl) (λs9 I9 ⟨a,sb,ha⟩=>?_) (.inr hy));have nC:C≠a:=by
  rcases ha with z|z
  ·rw[z];exact c1
  ·exact λw=>c4 y a z w.symm
 refine⟨m,hm.sameBut sb nC,λh' hs'=>⟨_,H',?_,q _ H' N (U.trans x) (.lst (gP.of Th) hl) λ_=>⟨Dd,vs,ds,rfl,rfl,U.hh.free hD,Th,hl⟩⟩⟩;exact I9.turned (t':=s9.toks) (λb o hb e=>(hs'.2 b hb).trans e) c0 c1 c3 c4 c5
section
variable {X:Cx}{a b c e:Expr}{pos:Pos}
def PE.to (h:PE X e t)(k:∀σ H Q,t' σ H Q->t σ H Q):PE X e t':=λae s σ H Q I q=>h ae s σ H Q I (k σ H Q q)
def PT.to (h:PT X e t)(k:∀σ H Q,t' σ H Q->t σ H Q):PT X e t':=λae s σ H Q I q=>h ae s σ H Q I (k σ H Q q)
def PW.to (h:PW X e t)(k:∀σ H Q,t' σ H Q->t σ H Q):PW X e t':=λg ae s σ H Q I q=>h g ae s σ H Q I (k σ H Q q)
def PA.to (h:PA X es t)(k:∀σ H Q,t' σ H Q->t σ H Q):PA X es t':=λpos ae s σ H Q I q=>h pos ae s σ H Q I (k σ H Q q)
def PS.to {st:Stmt}{t t':TS}(h:PS X st t)(k:∀E σ H,t' E σ H->t E σ H):PS X st t':=λae s σ H E I q=>h ae s σ H E I (k E σ H q)
def u0.to {st:List Stmt}{t t':TS}(h:u0 X st t)(k:∀E σ H,t' E σ H->t E σ H):u0 X st t':=λae s σ H E I q=>h ae s σ H E I (k E σ H q)
def PI.to (h:PI X tg it t)(k:∀σ H Q,t' σ H Q->t σ H Q):PI X tg it t':=λae s σ H Q I q=>h ae s σ H Q I (k σ H Q q)
def CA {K:Frag}{d:D}{v:V}(i:∀B,Is K B v d){σ:St}{H:Hp}{Q:VK}(h:tD K (fC d) σ H Q):tC v σ H Q:=by
 obtain⟨B,ρ,d',b,s,r,e,q⟩:=h;cases e
 exact q.one s (i B)
def pv (G:X.N[i]? = some x:=by rfl)(hv:Ki X.env.scope x:=by first|exact Or.inl rfl|exact Or.inr (Or.inl rfl)|exact Or.inr (Or.inr rfl))(hd:(x == ("__debug__" : Str))=false:=by decide)
  (g:(x == ("__classdict__" : Str))=false:=by decide):PE X (.Name x pos) (mV i):=pA G hv hd g
def af (i:Nat)(g:PE X (.Name x pos) (mV i):=by exact pv):JE X (.Name x pos) (ah i):=PE.to g λ_ _ _ h=>KY h
def au:JE X (.Constant (.int i) j pos) (fC (.int i)):=PE.to Kj λ_ _ _ h=>CA (λ_=>.int i) h
def gM:JE X (.Constant (.bool i) j pos) (fC (.bl i)):=PE.to MQ λ_ _ _ h=>CA (λ_=>.bl i) h
def eJ:JE X (.Constant .none j pos) (fC .non):=PE.to Kk λ_ _ _ h=>CA (λ_=>.non) h
def a8:JE X (.Constant (.str x) j pos) (fC (.str x)):=PE.to Kl λ_ _ _ h=>CA (λ_=>.str x) h
def Hi (g:Gl X x)(hm:X.mg x=some u)(r:aU v u)(i:∀B,Is X.K B v d)(hd:(x == ("__debug__" : Str))=false:=by decide):JE X (.Name x pos) (fC d):=PE.to (A6 g hm r hd) λ_ _ _ h=>CA i h
def aw (g:dE X (binaryOp op) (rD X.K f))(ha:JE X a fa)(hb:JE X b fb):JE X (.BinOp a op b pos) (f2 f fa fb):=PE.to (Jj g ha hb) λ_ _ _ h=>GW h
def AG (g:Nj X (unaryOp op) (Qt X.K f))(ha:JE X a fa):JE X (.UnaryOp op a pos) (f1 f fa):=PE.to (Nk g ha) λ_ _ _ h=>Qu h
def ce (g:dE X (compareOp op) (rD X.K f))(ha:JE X a fa)(hb:JE X b G)(hm:behindInMarks op b=false:=by first|exact jb _ (by decide) (by decide)|rfl):JE X (.Compare a [op] [b] pos) (f2 f fa G):=PE.to (GB g ha hb hm) λ_ _ _ h=>GW h
def zJ {K:Frag}{f:FE}{σ:St}{H:Hp}{Q:Bool->Hp->Prop}(h:C8 K (bp f) σ H Q):tD K f σ H λx H'=>∃k,x=.bl k/\Q k H':=by
 obtain⟨B,ρ,c,s,r,e,q⟩:=h;unfold bp at e;split at e
 ·rename_i G b' g;cases e
  refine⟨B,ρ,.bl c,b',s,r,g,λv H' N x i _=>?_⟩;cases i
  exact⟨c,rfl,q H' x.hh⟩
 ·cases e
def aI (g:dE X (compareOp op) (rD X.K f))(ha:JE X a fa)(hb:JE X b fb)(hm:behindInMarks op b=false:=by first|exact jb _ (by decide) (by decide)|rfl):JT X (.Compare a [op] [b] pos) (bp (f2 f fa fb)) :=
 PT.to (GC g ha hb hm) λ_ _ _ h=>GW (zJ h)
def ci (h:JE X e f)(he:∀g,isTrue e X.env g=(do let v ←g;standAt e.pos;holding [v] (truthy v)):=by intro _;rfl):JT X e (bp f):=PT.to (Kp h he) λ_ _ _ q=>zJ q
@[simp] noncomputable def nu (f g:D->D->OB)(fa G M:FE):FE:=λρ=>(fa ρ).bind λx=>(G ρ).bind λy=>match f x.1 y.1 with
 |some (.bl true,_)=>(M ρ).bind λz=>g y.1 z.1
 |some (.bl false,_)=>some (.bl false,false)
 |_=>none
def Ef {K:Frag}{f g:D->D->OB}{fa fb fc:FE}{σ:St}{H:Hp}{Q:VK}(h:tD K (nu f g fa fb fc) σ H Q):DI (rD K f) (rD K g) (tD K fa) (tD K fb) (tD K fc) σ H Q:=by
 obtain⟨B,ρ,d,b,s,r,e,q⟩:=h;obtain⟨x,ex,e⟩:=oX e;obtain⟨y,ey,e⟩:=oX e;refine⟨B,ρ,x.1,x.2,s,r,ex,λv H1 N1 O i1 _=>⟨N1,ρ,y.1,y.2,O.nh,r.mono O.bn,ey,λv2 H2 N2 G T _=>?_⟩⟩;split at e
 ·rename_i b' U;obtain⟨z,ez,e⟩:=oX e;refine⟨N2,x.1,y.1,.bl true,b',G.nh,i1.mono G.bn,T,U,λv3 H3 N3 M i3 _=>?_⟩;cases i3
  refine⟨true,rfl,?_⟩;rw[if_pos rfl];refine⟨N3,ρ,z.1,z.2,M.nh,r.mono (O.bn.trans (G.bn.trans M.bn)),ez,λv4 H4 N4 x4 i4 _=>⟨N4,y.1,z.1,d,b,x4.nh,T.mono (M.bn.trans x4.bn),i4,e,?_⟩⟩;exact q.into ((O.trans G).trans (M.trans x4))
 ·rename_i b' U;cases e
  refine⟨N2,x.1,y.1,.bl false,b',G.nh,i1.mono G.bn,T,U,λv3 H3 N3 M i3 _=>?_⟩;cases i3
  refine⟨false,rfl,?_⟩;rw[if_neg (by decide)];exact(q.into ((O.trans G).trans M)).one M.nh (.bl false)
 ·cases e
def Eg (M:dE X (compareOp op) (rD X.K f))(G:dE X (compareOp Ti) (rD X.K g))(ha:JE X a fa)(hb:JE X b fb)(hc:JE X c fc)
  (hm:lastMarks [op,Ti] [b,c]=false:=by with_unfolding_all rfl):JE X (.Compare a [op,Ti] [b,c] pos) (nu f g fa fb fc):=PE.to (DJ M G ha hb hc hm) λ_ _ _ h=>Ef h
def Hj {K:Frag}{f g:FT}{σ:St}{H:Hp}{Q:Bool->Hp->Prop}(h:C8 K (dq f g) σ H Q):MT (C8 K f) (C8 K g) σ H Q:=by
 obtain⟨B,ρ,c,s,r,e,q⟩:=h;unfold dq at e;cases G:f ρ with
 |none=>rw[G]at e;cases e
 |some k=>
  rw[G]at e;refine⟨B,ρ,k,s,r,G,λM h1=>?_⟩;cases k with
  |true=>rw[if_pos rfl];exact⟨B,ρ,c,s.trans h1,r,e,λH2 h2=>q H2 (h1.trans h2)⟩
  |false=>rw[if_neg (by decide)];cases e;exact q M h1
def Lc {K:Frag}{f g:FT}{σ:St}{H:Hp}{Q:Bool->Hp->Prop}(h:C8 K (jf f g) σ H Q):Sh (C8 K f) (C8 K g) σ H Q:=by
 obtain⟨B,ρ,c,s,r,e,q⟩:=h;unfold jf at e;cases G:f ρ with
 |none=>rw[G]at e;cases e
 |some k=>
  rw[G]at e;refine⟨B,ρ,k,s,r,G,λM h1=>?_⟩;cases k with
  |false=>rw[if_neg (by decide)];exact⟨B,ρ,c,s.trans h1,r,e,λH2 h2=>q H2 (h1.trans h2)⟩
  |true=>rw[if_pos rfl];cases e;exact q M h1
def Hk {K:Frag}{f:FT}{σ:St}{H:Hp}{Q:Bool->Hp->Prop}(h:C8 K (fD f) σ H Q):MU (C8 K f) σ H Q:=by
 obtain⟨B,ρ,c,s,r,e,q⟩:=h;obtain⟨k,ek,e⟩:=oY e;subst e;exact⟨B,ρ,k,s,r,ek,λg h1=>q g h1⟩
variable {aA:QD}
def gQ (ha:JT X a f):JW X (.BoolOp .And [a] pos) f:=G4 ha
def jU (ha:JT X a f):JW X (.BoolOp .Or [a] pos) f:=Kq ha
def iO (ha:JT X a f)(hb:JW X (.BoolOp .And (b::aA) pos) g):JW X (.BoolOp .And (a::b::aA) pos) (dq f g):=PW.to (Kr ha hb) λ_ _ _ h=>Hj h
def jV (ha:JT X a f)(hb:JW X (.BoolOp .Or (b::aA) pos) g):JW X (.BoolOp .Or (a::b::aA) pos) (jf f g):=PW.to (MV ha hb) λ_ _ _ h=>Lc h
def jW (h:JW X e f):JT X e f:=h.pt
def gF (ha:JT X a f):JT X (.UnaryOp .Not a pos) (fD f):=PT.to (Ks ha) λ_ _ _ h=>Hk h
@[simp] noncomputable def lb (f g:FE):FE:=λρ=>match f ρ with|some (.bl true,_)=>g ρ|some (.bl false,_)=>some (.bl false,false)|_=>none
@[simp] noncomputable def Hl (f g:FE):FE:=λρ=>match f ρ with|some (.bl true,_)=>some (.bl true,false)|some (.bl false,_)=>g ρ|_=>none
def hG (ha:JE X a f)(hb:JE X (.BoolOp .And (b::aA) pos) g):JE X (.BoolOp .And (a::b::aA) pos) (lb f g):=PE.to (Ku ha hb) λσ H Q h=>by
 obtain⟨B,ρ,d,k,s,r,e,q⟩:=h;unfold lb at e;split at e
 ·rename_i b' M;refine⟨B,ρ,_,_,s,r,M,λv T N1 G O _=>?_⟩;cases O
  refine⟨true,rfl,?_⟩;rw[if_pos rfl];exact⟨N1,ρ,d,k,G.nh,r.mono G.bn,e,q.into G⟩
 ·rename_i b' M;cases e
  refine⟨B,ρ,_,_,s,r,M,λv T N1 G O _=>?_⟩;cases O
  refine⟨false,rfl,?_⟩;rw[if_neg (by decide)];exact(q.into G).one G.nh (.bl false)
 ·cases e
def AH (ha:JE X a f)(hb:JE X (.BoolOp .Or (b::aA) pos) g):JE X (.BoolOp .Or (a::b::aA) pos) (Hl f g):=PE.to (MX ha hb) λσ H Q h=>by
 obtain⟨B,ρ,d,k,s,r,e,q⟩:=h;unfold Hl at e;split at e
 ·rename_i b' M;cases e
  refine⟨B,ρ,_,_,s,r,M,λv T N1 G O _=>?_⟩;cases O
  refine⟨true,rfl,?_⟩;rw[if_pos rfl];exact(q.into G).one G.nh (.bl true)
 ·rename_i b' M;refine⟨B,ρ,_,_,s,r,M,λv T N1 G O _=>?_⟩;cases O
  refine⟨false,rfl,?_⟩;rw[if_neg (by decide)];exact⟨N1,ρ,d,k,G.nh,r.mono G.bn,e,q.into G⟩
 ·cases e
def fF (h:JE X a f):JE X (.BoolOp op [a] pos) f:=Kt h
variable {es:QD}
def am:JA X [] aj:=PA.to gE λ_ _ _ h=>GY h
def ai (ha:JE X e f)(G:JA X es g)(hs:starEach (e::es) X.env=(false,eval e X.env)::starEach es X.env:=by rfl):JA X (e::es) (ag f g):=PA.to (ee ha G hs) λ_ _ _ h=>DY h
@[simp] noncomputable def be:LD->OB:=λds=>if ds.length<=sizeLine then some (.tup ds,false)else none
@[simp] noncomputable def bv:LD->OB:=λds=>if ds.length<=sizeLine then some (.lst ds,true)else none
def aY {g}(h:JA X es f):JE X (.Tuple es g pos) (fA be f):=PE.to (z5 h) λσ H Q q=>by
 obtain⟨B,ρ,ds,s,r,e,k⟩:=GX q;refine⟨B,ρ,ds,s,r,e,λvs M N1 g O=>?_⟩;obtain⟨T,U,d,b,s2,G,e2,k2⟩:=k vs M N1 g O;unfold be at e2;split at e2
 ·rename_i hz;cases e2
  refine⟨by rw[G.length];exact hz,λp hp=>k2 _ _ (upd T p (.tup vs)) (.laid s2 hp) (.tup (jc.of aC) (G.mono (Ext.laid s2 hp).bn)) (by simp)⟩
 ·cases e2
def b9 (h:JA X es f):JE X (.List es pos) (fA bv f):=PE.to (DM h) λσ H Q q=>by
 obtain⟨B,ρ,ds,s,r,e,k⟩:=GX q;refine⟨B,ρ,ds,s,r,e,λvs M N1 O T=>?_⟩;obtain⟨U,g,d,b,s2,G,e2,k2⟩:=k vs M N1 O T;unfold bv at e2;split at e2
 ·rename_i hz;cases e2
  refine⟨by rw[G.length];exact hz,λp hp=>k2 _ _ (upd U p (.lst vs)) (.laid s2 hp) (.lst (gP.of aC) (G.mono (Ext.laid s2 hp).bn)) λ_=>⟨p,vs,g,rfl,rfl,hp,aC,G.mono (Ext.laid s2 hp).bn⟩⟩
 ·cases e2
end
section
variable {X:Cx}
def iP (h:dE X f r)(k:∀x y H Q,r' x y H Q->r x y H Q):dE X f r':=λae s σ H x y v u Q I g G q=>h ae s σ H x y v u Q I g G (k x y H Q q)
noncomputable def DA (f g:D->D->OB):D->D->OB:=λx y=>match f x y with|some r=>some r|none=>g x y
def nv (h:dE X s (rD X.K f))(h':dE X s (rD X.K g)):dE X s (rD X.K (DA f g)):=by
 intro ae st σ H x y v u Q I G M q;obtain⟨B,dx,O,d,b,T,U,iy,e,q⟩:=q;unfold DA at e;split at e
 ·rename_i r ef;cases e
  exact h ae st σ H x y v u Q I G M ⟨B,dx,O,_,_,T,U,iy,ef,q⟩
 ·exact h' ae st σ H x y v u Q I G M ⟨B,dx,O,_,_,T,U,iy,e,q⟩
@[simp] noncomputable def zn (C:Int->Int->Bool)(g:Int->Int->D):D->D->OB
 |.int i,.int j=>if C i j=true then some (g i j,false)else none
 |_,_=>none
def vg (h:dE X s (rI C g))(G:∀i j,C' i j=true->C i j)(M:∀i j B,Is X.K B (g i j) (g' i j)):dE X s (rD X.K (zn C' g')):=by
 refine iP h λx y H Q q=>?_;obtain⟨B,dx,dy,d,b,O,T,U,e,q⟩:=q;cases T<;>try (cases e;done)
 cases U<;>try (cases e;done)
 rename_i i j;simp only[zn]at e;split at e
 ·rename_i hc;cases e
  exact⟨i,j,rfl,rfl,G i j hc,q.one O (M i j B)⟩
 ·cases e
def hJ (h:dE X s (Gi g))(G:∀i j B,Is X.K B (g i j) (g' i j)):dE X s (rD X.K (zn (λ_ _=>true) g')):=by
 refine iP h λx y H Q q=>?_;obtain⟨B,dx,U,d,b,M,O,T,e,q⟩:=q;cases O<;>try (cases e;done)
 cases T<;>try (cases e;done)
 rename_i i j;simp only[zn,if_true]at e;cases e
 exact⟨i,j,rfl,rfl,q.one M (G i j B)⟩
abbrev Ld:D->D->OB:=zn (λ_ _=>true) λi j=>.int (i+j)
abbrev vh:D->D->OB:=zn (λ_ _=>true) λi j=>.int (i - j)
abbrev Le:D->D->OB:=zn (λi j=>decide ((-18446744073709551616<i/\i<18446744073709551616)∨(-18446744073709551616<j/\j<18446744073709551616))) λi j=>.int (i*j)
abbrev cO:D->D->OB:=zn (λ_ j=>decide (0<j/\j<1073741824)) λi j=>.int (i / j)
abbrev bA:D->D->OB:=zn (λ_ j=>decide (0<j)) λi j=>.int (i % j)
abbrev NH:D->D->OB:=zn (λ_ _=>true) λi j=>.int (Builtin.bitAnd i j)
abbrev Sv:D->D->OB:=zn (λ_ _=>true) λi j=>.bl (decide (i<j))
abbrev Qv:D->D->OB:=zn (λ_ _=>true) λi j=>.bl (decide (i<=j))
abbrev Gm:D->D->OB:=zn (λ_ _=>true) λi j=>.bl (decide (j<i))
abbrev Qw:D->D->OB:=zn (λ_ _=>true) λi j=>.bl (decide (j<=i))
def NI:dE X (binaryOp .Add) (rD X.K Ld):=hJ K4 λ_ _ _=>.int _
def AI:dE X (binaryOp .Sub) (rD X.K vh):=hJ K5 λ_ _ _=>.int _
def NJ:dE X (binaryOp .Mult) (rD X.K Le):=vg K6 (λi j h=>by have h:=of_decide_eq_true h;unfold G9;omega) λ_ _ _=>.int _
def bN:dE X (binaryOp .FloorDiv) (rD X.K cO):=vg GA (λi j h=>by have h:=of_decide_eq_true h;unfold Nl;omega) λ_ _ _=>.int _
def bG:dE X (binaryOp .Mod) (rD X.K bA):=vg K7 (λ_ _ h=>of_decide_eq_true h) λ_ _ _=>.int _
def NK:dE X (binaryOp .BitAnd) (rD X.K NH):=hJ K8 λ_ _ _=>.int _
def Qx:dE X (compareOp .Lt) (rD X.K Sv):=hJ Nm λ_ _ _=>.bl _
def Qy:dE X (compareOp .LtE) (rD X.K Qv):=hJ Nn λ_ _ _=>.bl _
def Eh:dE X (compareOp .Gt) (rD X.K Gm):=hJ No λ_ _ _=>.bl _
def Qz:dE X (compareOp .GtE) (rD X.K Qw):=hJ Np λ_ _ _=>.bl _
@[simp] noncomputable def MA (C:Str->Str->Bool)(g:Str->Str->D):D->D->OB
 |.str i,.str j=>if C i j=true then some (g i j,false)else none
 |_,_=>none
abbrev Hm:D->D->OB:=MA (λi j=>decide (i.length+j.length<=sizeLine)) λi j=>.str (i++j)
abbrev P1:D->D->OB:=MA (λ_ _=>true) λi j=>.bl (!decide (j.cps.toList<i.cps.toList))
def Lf:dE X (binaryOp .Add) (rD X.K Hm):=by
 refine iP zy λx y H Q q=>?_;obtain⟨B,dx,O,d,b,g,G,M,e,q⟩:=q;cases G<;>try (cases e;done)
 cases M<;>try (cases e;done)
 rename_i i j;simp only[Hm,MA]at e;split at e
 ·rename_i hc;cases e
  exact⟨i,j,rfl,rfl,of_decide_eq_true hc,q.one g (.str _)⟩
 ·cases e
def NL:dE X (compareOp .LtE) (rD X.K P1):=by
 intro ae s σ H x y v u Q I g G q;obtain⟨B,dx,U,d,b,M,O,T,e,q⟩:=q;cases O<;>try (cases e;done)
 cases T<;>try (cases e;done)
 rename_i i j;simp only[P1,MA,if_true]at e;cases e
 obtain⟨t,rfl⟩:=g;obtain⟨t',rfl⟩:=G;exact PySem.P.le_str ⟨.bl _,H,I,rfl,q.one M (.bl _)⟩
end
section
variable {X:Cx}{a b c e:Expr}{pos:Pos}{st:Stmt}{aA:List Stmt}
def eK:wQ X [] bq:=u0.to G5 λ_ _ _ h=>Ea h
def ao (h1:JS X st g)(h2:wQ X aA h):wQ X (st::aA) (az g h):=u0.to (DD h1 h2) λ_ _ _ q=>GZ q
def bi (h1:JS X st g):wQ X [st] g:=G6 h1
def ft {c:Expr}{a b:List Stmt}{G:FT}{g h:FS}(hc:JT X c G)(ha:wQ X a g)(hb:wQ X b h):JS X (.If c a b pos) (eI G g h):=PS.to (Nc hc ha hb) λ_ _ _ q=>KZ q
def Ei (he:JE X e f):JS X (.Return (some e) pos) (aX f):=PS.to (DE he) λ_ _ _ q=>Ha q
def j4 (i:Nat)(g:PE X (.Name x p) (mV i):=by exact pv):JS X (.Return (some (.Name x p)) pos) (iE i):=PS.to (DE g) λ_ _ _ q=>Eb q
def aB (g:X.N.Nodup)(he:JE X e f)(hi:X.N[i]? = some x:=by rfl)(hx:DC X.env.scope x:=by first|exact Or.inl rfl|exact Or.inr rfl)(hs:swapsWith e (some (.Name x p)) pos.line X.env=pure false:=by rfl)
  (hf:X.fn x=true∨X.env.scope.names.lookup x=some .local:=by first|exact .inl rfl|exact .inr rfl):JS X (.Assign [.Name x p] e pos) (aO i f):=PS.to (pB g hi hx he hs hf) λ_ _ _ q=>AF q
def Hn (g:X.N.Nodup)(he:JE X e f)(hi:X.N[i]? = some x:=by rfl)(hx:DC X.env.scope x:=by first|exact Or.inl rfl|exact Or.inr rfl)(hs:swapsWith e (some (.Name x p)) pos.line X.env=pure false:=by rfl)
  (hf:X.fn x=true∨X.env.scope.names.lookup x=some .local:=by first|exact .inl rfl|exact .inr rfl):JS X (.Assign [.Name x p] e pos) (xn i f):=PS.to (pB g hi hx he hs hf) λ_ _ _ q=>Ec q
def Lg (hp:PassesOwn (model X.prog X.w) X.A X.env X.xe)(hc:X.calm=true)(hi:JI X tg gf fi)(G:PG X tg t)(M:Hd X.K p7 t)(hb:wQ X body g)
  (hs:∀x,foldedSetIterable gf X.env x=pure x:=by intro _;rfl):JS X (.For tg gf body [] pos) (l8 fi p7 g):=PS.to (DH hp hc hi G hb hs) λ_ _ _ q=>He M q
def Ho (hp:PassesOwn (model X.prog X.w) X.A X.env X.xe)(hc:X.calm=true)(hi:PI X tg gf (P0 X.K fi))(G:PG X tg t)(M:Hd X.K p7 t)(hb:wQ X body g)
  (hs:∀x,foldedSetIterable gf X.env x=pure x:=by intro _;rfl):JS X (.For tg gf body [] pos) (jT fi p7 g):=PS.to (DH hp hc hi G hb hs) λ_ _ _ q=>Ee M q
def iQ (he:JE X e f)(T:PE X (.Name x p) (mV i):=by exact pv)
  (g:attributeBase (.Name x p) "append" X.env (eval (.Name x p) X.env)=eval (.Name x p) X.env:=by rfl)
  (M:((backTo bR (starEach [e] X.env)).all (λx=>!x.1) && (backToKw bR (keywordEach [] X.env)).all (λx=>x.1.isSome)
   && decide ([e].length+([]:List Keyword).length+(if([]:List Keyword).isEmpty then 0 else 1)<30))=true:=by rfl)
  (G:(cG.endLine == bR.line)=true:=by rfl) (hs:starEach [e] X.env=[(false,eval e X.env)]:=by rfl) (O:swapsWith (.Call (.Attribute (.Name x p) "append" cG) [e] [] bR) none pos.line X.env=pure false:=by rfl):
  JS X (.Expr (.Call (.Attribute (.Name x p) "append" cG) [e] [] bR) pos) (jS i f):=by
 refine PS.to (u6 (xg plainAttrs_list PySem.F.slot_list_append PySem.F.type_list_append nn T (ee he gE hs) g M G hs rfl) O) λE σ H q=>?_;obtain⟨a,us,h1,h2,k⟩:=Hb q;exact⟨_,h1,.inl ⟨rfl,us,gP.of h2⟩,k⟩
end
@[simp] noncomputable def aL (g:FS)(n k:Nat):LD->OB:=λds=>if ds.length=n then
 match g (ds.map (λd=>some (d,false))++List.replicate k none) with
 |some (.rt d b)=>some (d,b)
 |some (.nx _)=>some (.non,false)
 |_=>none
 else none
def Hq (K:Frag)(f:LD->OB):Sp:=λvs H Q _=>∃(B:Hp)(ds:LD)(d:D)(b:Bool),(aW B H/\Tb K B)/\IsL K B vs ds/\f ds=some (d,b)/\Fin K B H d b Q
def xr {K:Frag}{B H:Hp}{vs:LV}{ds:LD}{N:LS}(G:aW B H)(tb:Tb K B)(i:IsL K B vs ds):dC K B H B H (L2.jL N vs) (ds.map (λd=>some (d,false))++List.replicate (N.length - vs.length) none):=by
 have g:∀(j:Nat)(d:D)(b:Bool),(ds.map (λd=>some (d,false))++List.replicate (N.length - vs.length) none:Env)[j]? = some (some (d,b))->b=false/\ds[j]? = some d:=λj d b e=>by
  by_cases hj:j<ds.length
  ·rw[getElem?_append_left (by simpa using hj),vA]at e;obtain⟨d',h1,h2⟩:=oY e;cases h2
   exact⟨rfl,h1⟩
  ·rw[List.getElem?_append_right (by simpa using Nat.not_lt.mp hj),getElem?_replicate]at e;split at e<;>cases e
 have M:∀a,¬own (L2.jL N vs) (ds.map (λd=>some (d,false))++List.replicate (N.length - vs.length) none) a:=λa ⟨j,d,h,_⟩=>by
  obtain⟨z,_⟩:=g j d true h;cases z
 refine⟨G,tb,.refl G,?_,λj d e=>?_,λj d e=>?_,λj k a d e h=>?_⟩
 ·unfold L2.jL;rw[uZ,uZ,vI,vI,length_replicate,length_replicate,i.length]
 ·obtain⟨_,O⟩:=g j d false e;obtain⟨v,h1,h2⟩:=i.get O;refine⟨v,?_,h2.mono λa o e=>by rw[cH (M a)];exact e⟩;unfold L2.jL;have hj:j<vs.length:=(vV h1).1;rw[getElem?_append_left (by simpa using hj),vA,h1]<;>rfl
 ·obtain⟨z,_⟩:=g j d true e;cases z
 ·obtain⟨z,_⟩:=g j d true h;cases z
section
variable {P:Program}{w:World}{K:Frag}{mg:SV}{base:Heap}
def NM {x qual:Str}{st:Stmt}{f:Addr}{fd:FuncData}{N ps:LS}{k:Nat}{g:FS}(F:Mo K x qual st f fd)(S:FnScope N ps (aQ st))
  (hb:∀(eN:Value)(A:Around)(outer:List PySem.Env)(s:Shared)(H:Hp)(E:XK),eW k (A.deeper (envOfC qual (aQ st) s.heap.objs.size f eN))->wQ (oK zl P w K mg base N qual (aQ st) f eN A outer s H E).nox (cD st) g):
  sK P w K mg base zl (k+1) f fd ps (Hq K (aL g ps.length (N.length - ps.length))):=by
 have len:∀vs H Q E,Hq K (aL g ps.length (N.length - ps.length)) vs H Q E->vs.length=ps.length:=λvs H Q E h=>by
  obtain⟨B,ds,d,b,M,i,e,q⟩:=h;unfold aL at e;split at e
  ·rename_i hl;rw[i.length];exact hl
  ·cases e
 refine F.ok S len λeN A outer s H vs Q E U h=>⟨_,hb eN A outer s H E U,?_⟩;have G:=len vs H Q E h;obtain⟨B,ds,d,b,M,i,e,q⟩:=h;unfold aL at e;rw[if_pos (by rw[←i.length];exact G)]at e;have O:=xr (N:=N) M.1 M.2 i;rw[G]at O;split at e
 ·rename_i d' b' T;cases e
  exact⟨B,H,_,_,⟨B,O⟩,T,λv H' N' x' i' f'=>q v H' N' x' i' f'⟩
 ·rename_i ρ' T;cases e
  exact⟨B,H,_,_,⟨B,O⟩,T,λσ' H' ⟨N',s'⟩=>q .non H' N' s'.ext .non (by simp)⟩
 ·cases e
structure Fn (P:Program)(w:World)(K:Frag)(mg:Str->Option Value)(base:Heap)(k:Nat)(x:Str)(f:List D->OB):Prop where
 ex:∃(ad:Addr)(fd:FuncData)(ps:List Str),sK P w K mg base zl k ad fd ps (Hq K f)/\mg x=some (.ref ad)/\PySem.W.keepIn K (.ref ad)=true/\sQ K fd ps []
end
def AJ (F:Fn X.prog X.w X.K X.mg X.base k x f)(O:eW k X.A)(ha:JA X (e::es) fa)(T:Gl X x:=by rfl)
  (g:(x == ("__debug__" : Str))=false:=by decide) (he:starEach (e::es) X.env=(false,eval e X.env)::starEach es X.env:=by rfl) (G:(backTo pos (starEach es X.env)).any (·.1)=false:=by rfl):
  JE X (.Call (.Name x p) (e::es) [] pos) (fA f fa):=by
 obtain⟨ad,fd,ps,U,hm,hk,hb⟩:=F.ex;refine PE.to (GF U O T hm hk hb .nil N6 ha g he G) λσ H Q q=>?_;obtain⟨B,ρ,d,b,s,r,e,q⟩:=q;obtain⟨ds,ex,e⟩:=oX e;exact⟨B,ρ,ds,s,r,ex,λvs H1 N1 M i1=>by
  show Hq X.K f (vs++[]) H1 Q _;rw[uQ];exact⟨N1,ds,d,b,⟨M.nh,r.tb.mono M.bn⟩,i1,e,q.into M⟩⟩
mutual
@[simp] def cI:D->D->Bool
 |.non,.non=>true
 |.bl a,.bl b=>a == b
 |.bl a,.int b=>decide ((if a then 1 else 0)=b)
 |.int a,.bl b=>decide (a=(if b then 1 else 0))
 |.int a,.int b=>decide (a=b)
 |.str a,.str b=>decide (a=b)
 |.tup xs,.tup ys=>eC xs ys
 |.lst xs,.lst ys=>eC xs ys
 |_,_=>false
@[simp] def eC:LD->LD->Bool
 |[],[]=>true
 |x::xs,y::ys=>cI x y && eC xs ys
 |_,_=>false
end
@[simp] def xu (a:Str)(b:Str):cI (.str a) (.str b)=decide (a=b):=by simp only[cI]
@[simp] noncomputable def aN:Nat->D->Bool
 |_,.non=>true
 |_,.bl _=>true
 |_,.int _=>true
 |_,.str _=>true
 |_,.ty _=>false
 |_,.dk _ _=>false
 |_,.dt _ _=>false
 |0,.tup _=>false
 |0,.lst _=>false
 |n+1,.tup ds=>ds.all (aN n)
 |n+1,.lst ds=>ds.all (aN n)
theorem xw:∀ {xs ys:LD},eC xs ys=true->xs.length=ys.length
 |[],[],_=>rfl
 |x::xs,y::ys,h=>by
  simp only[eC,vC]at h;rw[vE,vE,xw h.2]
 |[],_::_,h=>by simp[eC]at h
 |_::_,[],h=>by simp[eC]at h
def vi (h:xs.length≠ys.length):eC xs ys=false:=by
 cases e:eC xs ys with
 |false=>rfl
 |true=>exact absurd (xw e) h
theorem j5 (f:Nat->Bool):∀ {xs ys:LD},xs.length=ys.length->(∀(j:Nat) x y,xs[j]? = some x->ys[j]? = some y->f j=cI x y)->(List.range xs.length).all f=eC xs ys
 |[],[],_,_=>by simp[eC]
 |x::xs,y::ys,hl,h=>by
  have e:=j5 (λj=>f (j+1)) (xs:=xs) (ys:=ys) (by simpa using hl) λj a b h1 h2=>h (j+1) a b (by simpa using h1) (by simpa using h2);rw[vE,List.range_succ_eq_map,all_cons,List.all_map,eC,←h 0 x y rfl rfl,←e];rfl
 |[],_::_,hl,_=>by simp at hl
 |_::_,[],hl,_=>by simp at hl
section
variable {X:Cx}{ae:AO}{σ:St}{H:Hp}{s:Shared}
def AK (I:Inv X ae σ H s)(h1:jc X.K H a vs)(h2:gP X.K H a ws):False:=by
 obtain⟨its,_,⟨o,e,c,_⟩,_⟩:=I.tuple h1;obtain⟨its',_,⟨o',M,g,G,_⟩,_⟩:=I.list h2;rw[e]at g;cases g;rw[c]at G;injection G with z;exact absurd z (by decide)
def AL (I:Inv X ae σ H s)(e:s.heap.get? a=some o)(d:o.data=.seq its n):(∀aG ob,H a≠some (.dK aG ob))/\∀aG,H a≠some (.dT aG):=by
 refine⟨λaG ob h=>?_,λaG h=>?_⟩
 ·obtain⟨_,_,_,_,_,o',es,G,g,_,d',_⟩:=(show bO X.prog X.w H s.heap a (.dK aG ob)from I.hok a _ h);rw[e]at g;cases g;rw[d]at d';cases d'
 ·obtain⟨_,_,_,_,o',es,G,g,_,d',_⟩:=(show bO X.prog X.w H s.heap a (.dT aG)from I.hok a _ h);rw[e]at g;cases g;rw[d]at d';cases d'
def xx (I:Inv X ae σ H s)(h1:jc X.K H a vs):(∀aG ob,H a≠some (.dK aG ob))/\∀aG,H a≠some (.dT aG):=by
 obtain⟨its,_,⟨o,e,c,n,d⟩,_⟩:=I.tuple h1;exact AL I e d
def xy (I:Inv X ae σ H s)(h1:gP X.K H a vs):(∀aG ob,H a≠some (.dK aG ob))/\∀aG,H a≠some (.dT aG):=by
 obtain⟨its,_,p,_⟩:=I.list h1;obtain⟨o,e,c,n,d⟩:=p.isList;exact AL I e d
def AM (I:Inv X ae σ H s):∀(n:Nat){v:V}{d d':D},Is X.K H v d->Is X.K H v d'->aN n d=true->cI d d'=true:=by
 have g:∀ {p:D->Bool}(M:∀ {v:V}{d d':D},Is X.K H v d->Is X.K H v d'->p d=true->cI d d'=true) {vs:LV}{ds G:LD},IsL X.K H vs ds->IsL X.K H vs G->ds.all p=true->eC ds G=true:=by
  intro p M vs;induction vs with
  |nil=>intro ds G h h' _;cases h;cases h';simp[eC]
  |cons v vs O=>
   intro ds G h h' hp;cases h with
   |cons h1 h2=>
    cases h' with
    |cons h3 h4=>
     rw[all_cons,vC]at hp;rw[eC,M h1 h3 hp.1,O h2 h4 hp.2];rfl
 intro n;induction n with
 |zero=>
  intro v d d' h h' hp;cases h<;>cases h'<;>first|(simp[aN]at hp;done)|simp[cI]
 |succ n M=>
  intro v d d' h h' hp;cases h with
  |tup h1 h2=>
   cases h' with
   |tup h3 h4=>
    rw[I.tuple_inj h3 h1]at h4;rw[cI];exact g M h2 h4 (by simpa [aN]using hp)
   |lst h3 h4=>exact(AK I h1 h3).elim
   |dk h3 _ _=>exact((xx I h1).1 _ _ h3).elim
   |dt h3 _ _=>exact((xx I h1).2 _ h3).elim
  |lst h1 h2=>
   cases h' with
   |lst h3 h4=>
    rw[I.list_inj h3 h1]at h4;rw[cI];exact g M h2 h4 (by simpa [aN]using hp)
   |tup h3 h4=>exact(AK I h3 h1).elim
   |dk h3 _ _=>exact((xy I h1).1 _ _ h3).elim
   |dt h3 _ _=>exact((xy I h1).2 _ h3).elim
  |ty=>simp[aN]at hp
  |dk=>simp[aN]at hp
  |dt=>simp[aN]at hp
  |_=>cases h'<;>simp[cI]
def Jt {α:Type}{p:α->Bool}{l:List α}{j:Nat}{x:α}(h:l.all p=true)(e:l[j]? = some x):p x=true:=uR h x (vL e)
def xz {A:Around}{p:D->Bool}(ih:∀ {M O:V}{d1 d2:D}{T U:Value},p d1=true->p d2=true->Is X.K H M d1->Is X.K H O d2->aU M T->aU O U->SeqAt.EqAt A s T U (cI d1 d2))
  {vs G:LV}{ds es:LD}{its g:LU}(i1:IsL X.K H vs ds) (i2:IsL X.K H G es) (r1:bc vs its) (r2:bc G g) (p1:ds.all p=true) (p2:es.all p=true):
  ∀j (h1:j<its.toArray.size) (h2:j<g.toArray.size),SeqAt.EqAt A s its.toArray[j] g.toArray[j] (cI (ds.getD j .non) (es.getD j .non)):=by
 intro j h1 h2;rw[vH]at h1 h2;have l1:=r1.length;have l2:=r2.length;have l3:=i1.length;have l4:=i2.length;have hv:j<vs.length:=by omega
 have hw:j<G.length:=by omega
 have hd:j<ds.length:=by omega
 have he:j<es.length:=by omega
 obtain⟨u,e1,q1⟩:=r1.get (i:=j) (x:=vs[j]) (by simp[hv]);obtain⟨u',e2,q2⟩:=r2.get (i:=j) (x:=G[j]) (by simp[hw]);obtain⟨v,e3,q3⟩:=i1.get (i:=j) (d:=ds[j]) (by simp[hd]);obtain⟨w,e4,q4⟩:=i2.get (i:=j) (d:=es[j]) (by simp[he]);have a1:its.toArray[j]=u:=by have z:=(vV e1).2;simpa using z
 have a2:g.toArray[j]=u':=by have z:=(vV e2).2;simpa using z
 have a3:vs[j]=v:=by simpa [hv]using e3
 have a4:G[j]=w:=by simpa [hw]using e4
 have a5:ds.getD j .non=ds[j]:=by simp[List.getD,hd]
 have a6:es.getD j .non=es[j]:=by simp[List.getD,he]
 rw[a1,a2,a5,a6];exact ih (Jt p1 (j:=j) (by simp[hd])) (Jt p2 (j:=j) (by simp[he])) (a3 ▸ q3) (a4 ▸ q4) q1 q2
def vj {xs ys:LD}(j:Nat)(x y:D)(h1:xs[j]? = some x)(h2:ys[j]? = some y):cI (xs.getD j .non) (ys.getD j .non)=cI x y:=by
 simp[List.getD,h1,h2]
abbrev Q0 (A:Around)(s:Shared)(g G:Value)(b:Bool):Prop:=SeqAt.RcAt A s g G b/\SeqAt.EqAt A s g G b/\SeqAt.RcNeAt A s g G (!b)
def AN {g G:Addr}(rc:SeqAt.RcAt A s (.ref g) (.ref G) b)(M:SeqAt.RcNeAt A s (.ref g) (.ref G) (!b))(h:g=G->b=true):Q0 A s (.ref g) (.ref G) b:=by
 refine⟨rc,?_,M⟩;by_cases ha:g=G
 ·subst ha;rw[h rfl];exact SeqAt.EqAt.same _
 ·exact SeqAt.EqAt.of_refs ha rc
def x0 (O:aN 0 d1=true)(p2:aN 0 d2=true)(T:Is X.K H v1 d1)(G:Is X.K H v2 d2)(M:aU v1 u1)(g:aU v2 u2):Q0 A s u1 u2 (cI d1 d2):=by
 cases T with
 |non=>
  cases M
  cases G with
  |non=>cases g;rw[cI];exact⟨.none_none,.same _,.none_none⟩
  |bl b=>cases g;simp only[cI];exact⟨.none_bool _,.none_bool _,.none_bool _⟩
  |int b=>obtain⟨t',rfl⟩:=g;simp only[cI];exact⟨.none_int _ _,.none_int _ _,.none_int _ _⟩
  |str b=>obtain⟨t',rfl⟩:=g;simp only[cI];exact⟨.none_str _ _,.none_str _ _,.none_str _ _⟩
  |_=>simp at p2
 |bl a=>
  cases M
  cases G with
  |non=>cases g;simp only[cI];exact⟨.bool_none _,.bool_none _,.bool_none _⟩
  |bl b=>cases g;rw[cI];exact⟨.bool_bool _ _,.bool_bool _ _,.bool_bool _ _⟩
  |int b=>obtain⟨t',rfl⟩:=g;rw[cI,←beq_eq_decide_eq];exact⟨.bool_int _ _ _,.bool_int _ _ _,.bool_int _ _ _⟩
  |str b=>obtain⟨t',rfl⟩:=g;simp only[cI];exact⟨.bool_str _ _ _,.bool_str _ _ _,.bool_str _ _ _⟩
  |_=>simp at p2
 |int a=>
  obtain⟨t,rfl⟩:=M;cases G with
  |non=>cases g;simp only[cI];exact⟨.int_none _ _,.int_none _ _,.int_none _ _⟩
  |bl b=>cases g;rw[cI,←beq_eq_decide_eq];exact⟨.int_bool _ _ _,.int_bool _ _ _,.int_bool _ _ _⟩
  |int b=>obtain⟨t',rfl⟩:=g;rw[cI,←beq_eq_decide_eq];exact⟨.int_int _ _ _ _,.int_int _ _ _ _,.int_int _ _ _ _⟩
  |str b=>obtain⟨t',rfl⟩:=g;simp only[cI];exact⟨.int_str _ _ _ _,.int_str _ _ _ _,.int_str _ _ _ _⟩
  |_=>simp at p2
 |str a=>
  obtain⟨t,rfl⟩:=M;cases G with
  |non=>cases g;simp only[cI];exact⟨.str_none _ _,.str_none _ _,.str_none _ _⟩
  |bl b=>cases g;simp only[cI];exact⟨.str_bool _ _ _,.str_bool _ _ _,.str_bool _ _ _⟩
  |int b=>obtain⟨t',rfl⟩:=g;simp only[cI];exact⟨.str_int _ _ _ _,.str_int _ _ _ _,.str_int _ _ _ _⟩
  |str b=>obtain⟨t',rfl⟩:=g;rw[cI,←beq_eq_decide_eq];exact⟨.str_str _ _ _ _,.str_str _ _ _ _,.str_str _ _ _ _⟩
  |_=>simp at p2
 |_=>simp at O
def Ju (I:Inv X ae σ H s):∀(n:Nat){A:Around}{v1 v2:V}{d1 d2:D}{u1 u2:Value},A.units+n<cLine->aN n d1=true->aN n d2=true->Is X.K H v1 d1->Is X.K H v2 d2->aU v1 u1->aU v2 u2->Q0 A s u1 u2 (cI d1 d2):=by
 intro n;induction n with
 |zero=>exact λ_ p1 p2 i1 i2 O U=>x0 p1 p2 i1 i2 O U
 |succ n ih=>
  intro A v1 v2 d1 d2 u1 u2 hu p1 p2 i1 i2 O U;have g:A.units<cLine:=by omega
  have Tj:∀ {v1 v2:V}{d1 d2:D}{u1 u2:Value},aN n d1=true->aN n d2=true->Is X.K H v1 d1->Is X.K H v2 d2->aU v1 u1->aU v2 u2->SeqAt.EqAt A.in1 s u1 u2 (cI d1 d2):=λp1 p2 i1 i2 O U=>(ih (A:=A.in1) (by show A.units+1+n<cLine;omega) p1 p2 i1 i2 O U).2.1;by_cases f2:aN 0 d2=true
  ·by_cases f1:aN 0 d1=true
   ·exact x0 f1 f2 i1 i2 O U
   ·cases i1 with
    |tup h1 k1=>
     cases O
     obtain⟨its,T,G,z1⟩:=I.tuple h1;cases i2 with
     |non=>cases U;simp only[cI];exact⟨.tuple_none G g,.tuple_none G g,.tuple_none G g⟩
     |bl=>cases U;simp only[cI];exact⟨.tuple_bool _ G g,.tuple_bool _ G g,.tuple_bool _ G g⟩
     |int=>obtain⟨t,rfl⟩:=U;simp only[cI];exact⟨.tuple_int _ _ G g,.tuple_int _ _ G g,.tuple_int _ _ G g⟩
     |str=>obtain⟨t,rfl⟩:=U;simp only[cI];exact⟨.tuple_str _ _ G g,.tuple_str _ _ G g,.tuple_str _ _ G g⟩
     |_=>simp at f2
    |lst h1 k1=>
     cases O
     obtain⟨its,T,G,z1⟩:=I.list h1;replace G:=G.isList;cases i2 with
     |non=>cases U;simp only[cI];exact⟨.list_none G g,.list_none G g,.list_none G g⟩
     |bl=>cases U;simp only[cI];exact⟨.list_bool _ G g,.list_bool _ G g,.list_bool _ G g⟩
     |int=>obtain⟨t,rfl⟩:=U;simp only[cI];exact⟨.list_int _ _ G g,.list_int _ _ G g,.list_int _ _ G g⟩
     |str=>obtain⟨t,rfl⟩:=U;simp only[cI];exact⟨.list_str _ _ G g,.list_str _ _ G g,.list_str _ _ G g⟩
     |_=>simp at f2
    |_=>simp at f1 p1
  ·cases i2 with
   |tup h2 k2=>
    cases U
    obtain⟨Jd,OH,M,z2⟩:=I.tuple h2;cases i1 with
    |tup h1 k1=>
     cases O
     obtain⟨its,T,G,z1⟩:=I.tuple h1;rename_i a2 ws es a1 vs ds;have he:=xz (A:=A.in1) (p:=aN n) Tj k1 k2 T OH (by simpa using p1) (by simpa using p2);have OJ:((List.range (min its.toArray.size Jd.toArray.size)).all (λj=>cI (ds.getD j .non) (es.getD j .non)) && its.toArray.size == Jd.toArray.size)=cI (.tup ds) (.tup es):=by
      rw[cI,vH,vH,←T.length,←OH.length,k1.length,k2.length];by_cases hl:ds.length=es.length
      ·rw[←hl,Nat.min_self,beq_self_eq_true,Bool.and_true];exact j5 _ hl λj x y e1 e2=>vj j x y e1 e2
      ·rw[vi hl,beq_eq_false_iff_ne.mpr hl,Bool.and_false]
     have rc:=SeqAt.RcAt.tuples G M g he;have rn:=SeqAt.RcNeAt.tuples G M g he;rw[OJ]at rc rn;exact AN rc rn λe=>by subst e;exact AM I (n+1) (.tup h1 k1) (.tup h2 k2) p1
    |lst h1 k1=>cases O;obtain⟨its,T,G,z1⟩:=I.list h1;simp only[cI];exact⟨.list_tuple G.isList M g,.list_tuple G.isList M g,.list_tuple G.isList M g⟩
    |non=>cases O;simp only[cI];exact⟨.none_tuple M g,.none_tuple M g,.none_tuple M g⟩
    |bl=>cases O;simp only[cI];exact⟨.bool_tuple _ M g,.bool_tuple _ M g,.bool_tuple _ M g⟩
    |int=>obtain⟨t,rfl⟩:=O;simp only[cI];exact⟨.int_tuple _ _ M g,.int_tuple _ _ M g,.int_tuple _ _ M g⟩
    |str=>obtain⟨t,rfl⟩:=O;simp only[cI];exact⟨.str_tuple _ _ M g,.str_tuple _ _ M g,.str_tuple _ _ M g⟩
    |_=>simp at p1
   |lst h2 k2=>
    cases U
    obtain⟨Jd,OH,M,z2⟩:=I.list h2;replace M:=M.isList;cases i1 with
    |lst h1 k1=>
     cases O
     obtain⟨its,T,G,z1⟩:=I.list h1;replace G:=G.isList;rename_i a2 ws es a1 vs ds;have he:=xz (A:=A.in1) (p:=aN n) Tj k1 k2 T OH (by simpa using p1) (by simpa using p2);have both:SeqAt.RcAt A s (.ref a1) (.ref a2) (cI (.lst ds) (.lst es))/\SeqAt.RcNeAt A s (.ref a1) (.ref a2) (!cI (.lst ds) (.lst es)):=by
      have hz:its.toArray.size=ds.length/\Jd.toArray.size=es.length:=by rw[vH,vH,←T.length,←OH.length,k1.length,k2.length];exact⟨rfl,rfl⟩
      by_cases hl:ds.length=es.length
      ·have OJ:(List.range its.toArray.size).all (λj=>cI (ds.getD j .non) (es.getD j .non))=cI (.lst ds) (.lst es):=by
        rw[cI,hz.1];exact j5 _ hl λj x y e1 e2=>vj j x y e1 e2
       have hs:=(hz.1.trans hl).trans hz.2.symm;have rc:=SeqAt.RcAt.lists G M hs g he;have rn:=SeqAt.RcNeAt.lists G M hs g he;rw[OJ]at rc rn;exact⟨rc,rn⟩
      ·have hs:(its.toArray.size != Jd.toArray.size)=true:=by rw[hz.1,hz.2];exact bne_iff_ne.mpr hl
       rw[cI,vi hl];exact⟨.lists_lengths G M hs g,.lists_lengths G M hs g⟩
     exact AN both.1 both.2 λe=>by subst e;exact AM I (n+1) (.lst h1 k1) (.lst h2 k2) p1
    |tup h1 k1=>cases O;obtain⟨its,T,G,z1⟩:=I.tuple h1;simp only[cI];exact⟨.tuple_list G M g,.tuple_list G M g,.tuple_list G M g⟩
    |non=>cases O;simp only[cI];exact⟨.none_list M g,.none_list M g,.none_list M g⟩
    |bl=>cases O;simp only[cI];exact⟨.bool_list _ M g,.bool_list _ M g,.bool_list _ M g⟩
    |int=>obtain⟨t,rfl⟩:=O;simp only[cI];exact⟨.int_list _ _ M g,.int_list _ _ M g,.int_list _ _ M g⟩
    |str=>obtain⟨t,rfl⟩:=O;simp only[cI];exact⟨.str_list _ _ M g,.str_list _ _ M g,.str_list _ _ M g⟩
    |_=>simp at p1
   |_=>simp at f2 p2
@[simp] def eD:D->D->OB:=λx y=>if aN 40 x=true/\aN 40 y=true then some (.bl (cI x y),false)else none
@[simp] def sd:D->D->OB:=λx y=>if aN 40 x=true/\aN 40 y=true then some (.bl (!cI x y),false)else none
def cJ (hu:X.A.units+40<cLine):dE X (compareOp .Eq) (rD X.K eD):=by
 intro ae s σ H x y v u Q I G M q;obtain⟨B,dx,U,d,b,g,O,T,e,q⟩:=q;unfold eD at e;split at e
 ·rename_i hp;cases e
  exact(Ju I 40 hu hp.1 hp.2 (O.mono g) (T.mono g) G M).1 _ _ _ _ ⟨.bl _,H,I,rfl,q.one g (.bl _)⟩
 ·cases e
def xA (hu:X.A.units+40<cLine):dE X (compareOp .NotEq) (rD X.K sd):=by
 intro ae s σ H x y v u Q I G M q;obtain⟨B,dx,U,d,b,g,O,T,e,q⟩:=q;unfold sd at e;split at e
 ·rename_i hp;cases e
  exact(Ju I 40 hu hp.1 hp.2 (O.mono g) (T.mono g) G M).2.2 _ _ _ _ ⟨.bl _,H,I,rfl,q.one g (.bl _)⟩
 ·cases e
end
section
variable {X:Cx}{a b e:Expr}{pos:Pos}
def AQ {K:Frag}{H:Hp}{vs:LV}{ds:LD}{i:Int}{d:D}(h:IsL K H vs ds)(e:nZ ds i=some d):∃v,nZ vs i=some v/\Is K H v d:=by
 unfold nZ at e ⊢;rw[h.length];cases q:C1 ds.length i with
 |none=>rw[q]at e;cases e
 |some j=>rw[q]at e;exact h.get e
@[simp] def bK:D->D->OB
 |.lst ds,.int i=>(nZ ds i).map λd=>(d,false)
 |.tup ds,.int i=>(nZ ds i).map λd=>(d,false)
 |.str z,.int i=>if z.length<=sizeLine then (nZ z.cps.toList i).map λc=>(.str ⟨#[c]⟩,false)else none
 |_,_=>none
def Q1:Gj X (rD X.K bK):=by
 intro g G ae s σ H x y v u Q I T U q hs;obtain⟨B,dx,dy,d,b,M,ix,iy,e,q⟩:=q;cases ix<;>try (cases e;done)
 all_goals (cases iy<;>try (cases e;done))
 ·simp only[bK]at e;split at e
  ·rename_i hz;obtain⟨c,O,e2⟩:=oY e;cases e2
   exact zA g G ae s σ H _ _ v u Q I T U ⟨_,_,c,rfl,rfl,hz,O,q.one M (.str _)⟩ hs
  ·cases e
 ·rename_i h hl i;simp only[bK]at e;obtain⟨c,O,e2⟩:=oY e;cases e2
  obtain⟨w,h1,h2⟩:=AQ hl O;exact z9 g G ae s σ H _ _ v u Q I T U ⟨_,_,_,w,rfl,rfl,bu M h,h1,q.one M h2⟩ hs
 ·rename_i h hl i;simp only[bK]at e;obtain⟨c,O,e2⟩:=oY e;cases e2
  obtain⟨w,h1,h2⟩:=AQ hl O;exact GO g G ae s σ H _ _ v u Q I T U ⟨_,_,_,w,rfl,rfl,M.seq h,h1,q.one M h2⟩ hs
def aS (ha:JE X a fa)(hb:JE X b fb)(hs:uC b:=by intro _ _;rfl):JE X (.Subscript a b pos) (f2 bK fa fb):=PE.to (Jn Q1 ha hb hs) λ_ _ _ h=>GW h
abbrev FO:=Env->Option OI
def Uv (K:Frag)(f:FO):TO:=λσ H Q=>∃(B:Hp)(ρ:Env)(o:OI),aW B H/\fP K B σ ρ/\f ρ=some o/\∀H',aW H H'->Q o H'
abbrev JO (X:Cx)(e:Option Expr)(f:FO):Prop:=PO X e (Uv X.K f)
@[simp] noncomputable def fG:FO:=λ_=>some none
@[simp] noncomputable def fu (f:FE):FO:=λρ=>match f ρ with|some (.int i,_)=>some (some i)|_=>none
def j6:JO X none fG:=λae s σ H Q I h=>GI ae s σ H Q I (by
 obtain⟨B,ρ,o,g,r,e,q⟩:=h;cases e
 exact q H (.refl H))
def j7 (h:JE X e f):JO X (some e) (fu f):=λae s σ H Q I q=>GJ h ae s σ H Q I (by
 obtain⟨B,ρ,o,g,r,e,q⟩:=q;unfold fu at e;split at e
 ·rename_i i b' G;cases e
  refine⟨B,ρ,_,_,g,r,G,λv M N1 O T _=>?_⟩;cases T
  exact⟨i,rfl,q M O.hh⟩
 ·cases e)
def pN (ds:LD)(lo hi:OI):LD:=(ds.drop (HT.eF ds.length 0 lo)).take (HT.eF ds.length ds.length hi - HT.eF ds.length 0 lo)
def vk {K:Frag}{H:Hp}{vs:LV}{ds:LD}{lo hi:OI}(h:IsL K H vs ds):IsL K H (se vs lo hi) (pN ds lo hi):=by
 unfold se pN;rw[h.length];exact(h.drop _).take _
def bP.to (h:bP X f r)(k:∀xs H Q,r' xs H Q->r xs H Q):bP X f r':=λae s σ H xs us Q I g q=>h ae s σ H xs us Q I g (k xs H Q q)
variable {es:QD}{x:Str}{p:Pos}{id T:String}
def bz (hc:bP X (.builtin id) (AE X.K f))(hm:X.mg x=none)(hv:bootBuiltins x=some (.builtin id))(ha:JA X (e::es) fa)(M:Gl X x:=by rfl)(hn:x ≠ "__name__":=by decide)(g:(x == ("__debug__" : Str))=false:=by decide)
  (he:starEach (e::es) X.env=(false,eval e X.env)::starEach es X.env:=by rfl) (G:(backTo pos (starEach es X.env)).any (·.1)=false:=by rfl):JE X (.Call (.Name x p) (e::es) [] pos) (fA f fa):=PE.to (pD hc M hm hv ha hn g he G) λ_ _ _ h=>GX h
def jg (hc:bP X (.type T) (AE X.K f))(hm:X.mg x=none)(hv:bootBuiltins x=some (.type T))(ha:JA X (e::es) fa)(M:Gl X x:=by rfl)(hn:x ≠ "__name__":=by decide)(g:(x == ("__debug__" : Str))=false:=by decide)
  (he:starEach (e::es) X.env=(false,eval e X.env)::starEach es X.env:=by rfl) (G:(backTo pos (starEach es X.env)).any (·.1)=false:=by rfl):JE X (.Call (.Name x p) (e::es) [] pos) (fA f fa):=PE.to (nj hc M hm hv ha hn g he G) λ_ _ _ h=>GX h
@[simp] noncomputable def fx:LD->OB
 |[.lst ds]=>some (.int ds.length,false)
 |[.tup ds]=>some (.int ds.length,false)
 |[.str z]=>if z.length<=sizeLine then some (.int z.length,false)else none
 |_=>none
def gN:bP X (.builtin "len") (AE X.K fx):=by
 refine bP.to (bP.or uG uH) λxs H Q q=>?_;obtain⟨B,ds,d,b,g,i,e,q⟩:=q;cases i with
 |nil=>simp[fx]at e
 |cons G M=>
  cases M with
  |cons _ _=>cases G<;>simp[fx]at e
  |nil=>
   cases G<;>try (simp[fx]at e;done)
   ·simp only[fx]at e;split at e
    ·rename_i hz;cases e
     exact .inr ⟨_,rfl,hz,q.one g (.int _)⟩
    ·cases e
   ·rename_i h hl;simp only[fx]at e;cases e
    refine .inl ⟨_,_,rfl,.inr (bu g h),?_⟩;rw[hl.length];exact q.one g (.int _)
   ·rename_i h hl;simp only[fx]at e;cases e
    refine .inl ⟨_,_,rfl,.inl (g.seq h),?_⟩;rw[hl.length];exact q.one g (.int _)
def NN (hm:X.mg x=none)(hv:bootBuiltins x=some (.type n))(g:Gl X x:=by rfl)(hn:x ≠ "__name__":=by decide)(hd:(x == ("__debug__" : Str))=false:=by decide):JE X (.Name x pos) (fC (.ty n)) :=
 PE.to (G3 g hm hv (v:=.ty n) rfl hn hd) λ_ _ _ h=>CA (λ_=>.ty n) h
end
def CB (g:eW k A):A.units+40<cLine:=by have:=g.un;omega
section
variable {X:Cx}{a b e:Expr}{pos:Pos}{x:Str}{p:Pos}
def xB (h:∃u v,X.mg x=some u/\aU v u/\∀B,Is X.K B v d)(g:Gl X x:=by rfl)(hd:(x == ("__debug__" : Str))=false:=by decide):JE X (.Name x pos) (fC d):=by
 obtain⟨u,v,hm,r,i⟩:=h;exact Hi g hm r i hd
@[simp] noncomputable def AR:D->D->OB
 |.int i,.int j=>some (.int (i+j),false)
 |.str i,.str j=>if i.length+j.length<=sizeLine then some (.str (i++j),false)else none
 |_,_=>none
def Hr:dE X (binaryOp .Add) (rD X.K AR):=by
 refine iP (r:=rD X.K (DA Ld Hm)) (nv NI Lf) λx y H Q q=>?_;obtain⟨B,dx,g,d,b,G,M,O,e,q⟩:=q;refine⟨B,dx,g,d,b,G,M,O,?_,q⟩;cases dx<;>try (cases e;done)
 all_goals (cases g<;>try (cases e;done))
 all_goals (simp[AR]at e;simp[DA,Ld,Hm,zn,MA,e])
@[simp] def fH:D->D->OB:=Le
def cK:dE X (binaryOp .Mult) (rD X.K fH):=NJ
@[simp] def Lh:D->D->OB:=Sv
def AS:dE X (compareOp .Lt) (rD X.K Lh):=Qx
@[simp] noncomputable def wR:D->D->OB
 |.int i,.int j=>some (.bl (decide (i<=j)),false)
 |.str i,.str j=>some (.bl (!decide (j.cps.toList<i.cps.toList)),false)
 |_,_=>none
def mh:dE X (compareOp .LtE) (rD X.K wR):=by
 refine iP (r:=rD X.K (DA Qv P1)) (nv Qy NL) λx y H Q q=>?_;obtain⟨B,dx,g,d,b,G,M,O,e,q⟩:=q;refine⟨B,dx,g,d,b,G,M,O,?_,q⟩;cases dx<;>try (cases e;done)
 all_goals (cases g<;>try (cases e;done))
 all_goals (simp[wR]at e;simp[DA,Qv,P1,zn,MA,e])
@[simp] noncomputable def nw:D->OB
 |.int i=>some (.int (-i),false)
 |_=>none
def AT:Nj X (unaryOp .USub) (Qt X.K nw):=by
 intro ae s σ H x v Q I g q;obtain⟨B,dx,d,b,G,M,e,q⟩:=q;cases M<;>try (simp[nw]at e;done)
 simp only[nw]at e;cases e
 exact K9 ae s σ H _ v Q I g ⟨_,rfl,q.one G (.int _)⟩
@[simp] noncomputable def CC:D->D->Option Bool
 |.non,.non=>some true
 |_,.non=>some false
 |.bl a,.bl b=>some (a == b)
 |_,.bl _=>some false
 |_,_=>none
@[simp] def DB:D->D->OB:=λx y=>(CC x y).map λb=>(.bl b,false)
@[simp] def lA:D->D->OB:=λx y=>(CC x y).map λb=>(.bl (!b),false)
def AU {K:Frag}{B:Hp}{x y:V}{v u:Value}{dx g:D}{k:Bool}(M:Is K B x dx)(O:Is K B y g)(G:aU x v)(T:aU y u)(e:CC dx g=some k):plainIs v u=true/\(v == u)=k:=by
 cases O<;>(first|(cases dx<;>simp[CC]at e;done)|skip)
 all_goals (cases M)
 all_goals (first|(obtain⟨t,rfl⟩:=G)|cases G)
 all_goals (cases T)
 all_goals (simp only[CC,Option.some.injEq]at e;subst e)
 all_goals (first|exact⟨rfl,rfl⟩|skip)
 all_goals (rename_i c d;cases c<;>cases d<;>exact⟨rfl,rfl⟩)
def Ej:dE X (compareOp .Is) (rD X.K DB):=by
 intro ae s σ H x y v u Q I g G q;obtain⟨B,dx,U,d,b,M,O,T,e,q⟩:=q;obtain⟨k,ek,e⟩:=oY e;cases e
 obtain⟨h1,h2⟩:=AU O T g G ek;refine wpAny_is_plain h1 ⟨.bl k,H,I,by rw[h2];rfl,q.one M (.bl _)⟩
def vn:dE X (compareOp .IsNot) (rD X.K lA):=by
 intro ae s σ H x y v u Q I g G q;obtain⟨B,dx,U,d,b,M,O,T,e,q⟩:=q;obtain⟨k,ek,e⟩:=oY e;cases e
 obtain⟨h1,h2⟩:=AU O T g G ek;refine wpAny_isNot_plain h1 ⟨.bl (!k),H,I,by rw[h2];rfl,q.one M (.bl _)⟩
@[simp] noncomputable def gs:D->Bool
 |.non=>true|.bl _=>true|.int _=>true|.str _=>true
 |_=>false
noncomputable def Gn (x:D)(ds:LD):Bool:=ds.any λy=>cI y x
@[simp] noncomputable def hU:D->Option LD
 |.lst ds=>some ds
 |.tup ds=>some ds
 |_=>none
@[simp] def sk:D->D->OB:=λx y=>(hU y).bind λds=>if gs x=true/\ds.all gs=true then some (.bl (Gn x ds),false)else none
@[simp] def eM:D->D->OB:=λx y=>(hU y).bind λds=>if gs x=true/\ds.all gs=true then some (.bl (!Gn x ds),false)else none
def pO {K:Frag}{B:Hp}{v:V}{d:D}(i:Is K B v d)(h:gs d=true):lg v=true:=by
 cases i<;>first|rfl|(simp[gs]at h)
def Q2 {K:Frag}{B:Hp}{v w:V}{d e:D}(i:Is K B v d)(j:Is K B w e)(h:gs d=true)(h':gs e=true):Gk v w=cI d e:=by
 cases i<;>(first|(simp[gs]at h;done)|skip)
 all_goals (cases j<;>(first|(simp[gs]at h';done)|skip))
 all_goals (simp only[Gk,cI,beq_eq_decide_eq])
theorem xC {K:Frag}{B:Hp}:∀ {vs:LV}{ds:LD},IsL K B vs ds->ds.all gs=true->vs.all lg=true
 |_,_,.nil,_=>rfl
 |_,_,.cons i t,h=>by
  rw[all_cons,vC]at h;rw[all_cons,pO i h.1,xC t h.2];rfl
theorem Ek {K:Frag}{B:Hp}{v:V}{d:D}(j:Is K B v d)(hd:gs d=true):∀ {vs:LV}{ds:LD},IsL K B vs ds->ds.all gs=true->Pz v vs=Gn d ds
 |_,_,.nil,_=>rfl
 |_,_,.cons i t,h=>by
  rw[all_cons,vC]at h;have e:=Ek j hd t h.2;unfold Pz Gn at *;rw[any_cons,any_cons,e,Q2 i j h.1 hd]
def oh:dE X (compareOp .In) (rD X.K sk):=by
 refine iP C2 λx y H Q q=>?_;obtain⟨B,dx,O,d,b,g,G,M,e,q⟩:=q;obtain⟨ds,es,e⟩:=oX e;split at e
 ·rename_i hf;cases e
  cases M<;>simp only[hU]at es<;>try (cases es;done)
  ·rename_i h hl;cases es
   exact⟨_,_,rfl,.inr (bu g h),pO G hf.1,xC hl hf.2,by rw[if_neg (by decide),Ek G hf.1 hl hf.2];exact q.one g (.bl _)⟩
  ·rename_i h hl;cases es
   exact⟨_,_,rfl,.inl (g.seq h),pO G hf.1,xC hl hf.2,by rw[if_neg (by decide),Ek G hf.1 hl hf.2];exact q.one g (.bl _)⟩
 ·cases e
def mi:dE X (compareOp .NotIn) (rD X.K eM):=by
 refine iP uF λx y H Q q=>?_;obtain⟨B,dx,O,d,b,g,G,M,e,q⟩:=q;obtain⟨ds,es,e⟩:=oX e;split at e
 ·rename_i hf;cases e
  cases M<;>simp only[hU]at es<;>try (cases es;done)
  ·rename_i h hl;cases es
   exact⟨_,_,rfl,.inr (bu g h),pO G hf.1,xC hl hf.2,by rw[if_pos rfl,Ek G hf.1 hl hf.2];exact q.one g (.bl _)⟩
  ·rename_i h hl;cases es
   exact⟨_,_,rfl,.inl (g.seq h),pO G hf.1,xC hl hf.2,by rw[if_pos rfl,Ek G hf.1 hl hf.2];exact q.one g (.bl _)⟩
 ·cases e
def gt:bootBuiltins "len" = some (.builtin "len"):=PySem.boot_len
def vp:bootBuiltins "isinstance" = some (.builtin "isinstance"):=by decide +kernel
def NO:bootBuiltins "max" = some (.builtin "max"):=by decide +kernel
def NP:bootBuiltins "min" = some (.builtin "min"):=by decide +kernel
def NQ:bootBuiltins "int" = some (.type "int"):=by decide +kernel
def Li:bootBuiltins "bool" = some (.type "bool"):=by decide +kernel
def El:bootBuiltins "list" = some (.type "list"):=by decide +kernel
def Hs:bootBuiltins "tuple" = some (.type "tuple"):=by decide +kernel
@[simp] noncomputable def Ht:LD->OB
 |[.int i,.int j]=>some (.int (if j > i then j else i),false)
 |_=>none
@[simp] noncomputable def Hu:LD->OB
 |[.int i,.int j]=>some (.int (if j<i then j else i),false)
 |_=>none
def xD {K:Frag}{B:Hp}{xs:LV}{i j:Int}(h:IsL K B xs [.int i,.int j]):xs=[.int i,.int j]:=by
 cases h with
 |cons h1 h2=>cases h1;cases h2 with|cons h3 h4=>cases h3;cases h4;rfl
def NR (hc:X.calm=true:=by rfl):bP X (.builtin "max") (AE X.K Ht):=by
 refine bP.to (Cv hc) λxs H Q q=>?_;obtain⟨B,ds,d,b,g,i,e,q⟩:=q;match ds,e with
 |[.int G,.int M],e=>simp only[Ht]at e;cases e;exact⟨G,M,xD i,q.one g (.int _)⟩
def NS (hc:X.calm=true:=by rfl):bP X (.builtin "min") (AE X.K Hu):=by
 refine bP.to (Cw hc) λxs H Q q=>?_;obtain⟨B,ds,d,b,g,i,e,q⟩:=q;match ds,e with
 |[.int G,.int M],e=>simp only[Hu]at e;cases e;exact⟨G,M,xD i,q.one g (.int _)⟩
@[simp] noncomputable def lB:D->String
 |.non=>"NoneType" | .bl _=>"bool" | .int _=>"int" | .str _=>"str" | .ty _=>"type" | .tup _=>"tuple" | .lst _=>"list" | .dk _ _=>"dict" | .dt _ _=>"dict"
@[simp] noncomputable def Q3:D->Bool
 |.ty _=>true
 |_=>false
@[simp] noncomputable def AW (t n:String):OB :=
 if n = "int" then some (.bl (t == "int" || t == "bool"),false)else if n = "bool" then some (.bl (t == "bool"),false)else if n = "str" then some (.bl (t == "str"),false)
 else if n = "list" then some (.bl (t == "list"),false)else if n = "tuple" then some (.bl (t == "tuple"),false)else none
@[simp] def jX:LD->OB
 |[d,.ty n]=>if Q3 d=true then none else AW (lB d) n
 |_=>none
def Hv {ae:AO}{σ:St}{H:Hp}{s:Shared}{A:Around}{E:QV}{Q:QV}{c:Value}{b:Bool}{v:V}{d:D}{u:Value}(I:Inv X ae σ H s)(i:Is X.K H v d)(hd:∀n,d≠.ty n)(g:aU v u)(e:PySem.W.kitOne X.K (.type (lB d)) c=some b)(h:∀tk,Q (.bool b) { s with toks:=tk }):
  wpAny (model X.prog X.w) A (call (.builtin "isinstance") [u,c]) Q E s:=by
 cases i with
 |non=>exact gW I g .non e h
 |bl y=>exact gW I g (.bl y) e h
 |int y=>exact gW I g (.int y) e h
 |str y=>exact gW I g (.str y) e h
 |ty n=>exact absurd rfl (hd n)
 |dk h1 _ _=>exact gW I g (.dK h1) e h
 |dt h1 _ _=>exact gW I g (.dT h1) e h
 |tup G _=>
  cases g
  obtain⟨its,_,⟨o,h1,h2,_⟩,_⟩:=I.tuple G;exact kia_one PySem.W.kitx_tuple I.kIn ⟨o,h1,h2⟩ e (λz=>nomatch z) h
 |lst hl _=>
  cases g
  obtain⟨its,_,⟨o,n,h1,h2,_⟩,_⟩:=I.list hl;exact kia_one PySem.W.kitx_list I.kIn ⟨o,h1,h2⟩ e (λz=>nomatch z) h
def Lj (K:Frag)(d:D)(hd:∀n,d≠.ty n):
  PySem.W.kitOne K (.type (lB d)) (.type "int")=some (lB d == "int" || lB d == "bool")/\PySem.W.kitOne K (.type (lB d)) (.type "bool")=some (lB d == "bool")/\PySem.W.kitOne K (.type (lB d)) (.type "str")=some (lB d == "str") /\
   PySem.W.kitOne K (.type (lB d)) (.type "list")=some (lB d == "list")/\PySem.W.kitOne K (.type (lB d)) (.type "tuple")=some (lB d == "tuple"):=by
 cases d<;>(first|exact absurd rfl (hd _)|skip)
 all_goals (simp only[lB];refine⟨?_,?_,?_,?_,?_⟩<;>kernel_rfl)
def vq:bP X (.builtin "isinstance") (AE X.K jX):=by
 intro ae s σ H xs us Q I G q;obtain⟨B,ds,d,b,g,i,e,q⟩:=q;cases i with
 |nil=>cases e
 |cons M i=>cases i with
 |nil=>cases e
 |cons O i=>
  cases O<;>try (cases e;done)
  cases i<;>try (cases e;done)
  rename_i dx n;obtain⟨T,u2,rfl,U,r2⟩:=A8 G;cases r2
  simp only[jX]at e;split at e
  ·cases e
  ·rename_i ht;have hd:∀n,dx≠.ty n:=λn z=>by subst z;exact ht rfl
   obtain⟨k1,k2,k3,k4,k5⟩:=Lj X.K dx hd;have iC:∀ {k:Bool},PySem.W.kitOne X.K (.type (lB dx)) (.type n)=some k->Fin X.K B H (.bl k) false Q->wq X (call (.builtin "isinstance") [T,.type n]) (EP X ae σ Q) X.xe s:=λ{k} hk q=>
    Hv I (M.mono g) hd U hk λtk=>⟨.bl k,H,I.tok tk,rfl,q.one g (.bl k)⟩
   unfold AW at e;split at e
   ·rename_i z;subst z;cases e;exact iC k1 q
   split at e
   ·rename_i z;subst z;cases e;exact iC k2 q
   split at e
   ·rename_i z;subst z;cases e;exact iC k3 q
   split at e
   ·rename_i z;subst z;cases e;exact iC k4 q
   split at e
   ·rename_i z;subst z;cases e;exact iC k5 q
   ·cases e
@[simp] def Em (f:FE):FA:=λρ=>(f ρ).bind λx=>hU x.1
def AX (h:JE X e f):JI X tg e (Em f):=by
 intro ae s σ H R I q;obtain⟨B,ρ,ds,sB,r,e',q⟩:=q;obtain⟨x,ex,es⟩:=oX e';obtain⟨xd,xb⟩:=x;cases xd<;>simp only[hU]at es<;>try (cases es;done)
 ·cases es
  refine Kz h ae s σ H R I ⟨B,ρ,_,_,sB,r,ex,λv T N1 M U _=>?_⟩;cases U with
  |@tup a vs _ G hl=>
   refine⟨a,rfl,⟨vs,bu M.nh G⟩,q _ T N1 M λi H2 s2=>⟨λd ed=>?_,λg=>⟨vs,bu s2 G,by rw[hl.length];exact g⟩⟩⟩;obtain⟨v,O,iv⟩:=hl.get ed;refine⟨⟨vs,v,bu s2 G,O⟩,λy H3 hy=>?_⟩;obtain⟨rfl,hy⟩:=hy;have:=hy vs (bu s2 G);rw[O]at this;cases this;exact⟨N1,.refl s2,iv⟩
 ·cases es
  refine G7 h ae s σ H R I ⟨B,ρ,_,_,sB,r,ex,λv T N1 M U _=>?_⟩;cases U with
  |@lst a vs _ G hl=>
   refine⟨a,rfl,⟨vs,M.nh.seq G⟩,q _ T N1 M λi H2 s2=>⟨λd ed=>?_,λg=>⟨vs,s2.seq G,by rw[hl.length];exact g⟩⟩⟩;obtain⟨v,O,iv⟩:=hl.get ed;refine⟨⟨vs,v,s2.seq G,O⟩,λy H3 hy=>?_⟩;obtain⟨rfl,hy⟩:=hy;have:=hy vs (s2.seq G);rw[O]at this;cases this;exact⟨N1,.refl s2,iv⟩
noncomputable def gG (lo:Int)(n:Nat):LD:=(List.range n).map λ(k:Nat)=>.int (lo+(k:Int))
def En {K:Frag}{B:Hp}(lo:Int)(n:Nat):nq K (Px lo n) B (gG lo n):=by
 intro i H s;unfold gG;refine⟨λd ed=>?_,λhl=>by rw[vI,length_range]at hl;exact hl⟩;rw[vA]at ed;obtain⟨k,ek,ed⟩:=oY ed;have hk:=vV ek;obtain⟨g,hk⟩:=hk;rw[length_range]at g;rw[List.getElem_range]at hk;subst hk;subst ed;refine⟨g,λx H' hy=>?_⟩;obtain⟨rfl,rfl⟩:=hy;exact⟨B,.refl s,.int _⟩
@[simp] def cU (f:FE):FA:=λρ=>match f ρ with
 |some (.int j,_)=>if -1000<=j/\j<=1000 then some (gG 0 j.toNat)else none
 |_=>none
def hV (hm:X.mg "range" = none)(h:JE X a f)(M:Gl X "range":=by rfl)(hs:starEach [a] X.env=[(false,eval a X.env)]:=by rfl):PI X tg (.Call (.Name "range" p) [a] [] pos) (P0 X.K (cU f)):=by
 refine PI.to (Cs M hm (ai h am hs) hs) λσ H R q=>?_;obtain⟨B,ρ,ds,O,r,g,q⟩:=q;unfold cU at g;split at g
 ·rename_i j b' T;split at g
  ·rename_i hj;cases g
   refine⟨B,ρ,[.int j],O,r,by simp[ag,aj,T],λvs U N1 x1 G=>?_⟩;cases G with
   |cons G i2=>
    cases G;cases i2
    exact⟨j,rfl,by omega,by omega,q _ U N1 x1 λ_=>En 0 j.toNat⟩
  ·cases g
 ·cases g
def pP (hm:X.mg "range" = none)(h:JE X a f)(g:Gl X "range":=by rfl)(hs:starEach [a] X.env=[(false,eval a X.env)]:=by rfl):JI X tg (.Call (.Name "range" p) [a] [] pos) (cU f) :=
 PI.to (hV hm h g hs) λσ H R ⟨B,ρ,ds,G,r,M,q⟩=>⟨B,ρ,ds,G,r,M,λJ H' N x h=>q J H' N x (h _)⟩
end
def du (K:Frag)(x:Str)(st:Stmt):Prop:=∃(f:Addr)(fd:FuncData),Mo K x x st f fd/\nsIn K mainGlobals x=some (some (.ref f))
def def_mk {K:Frag}{x:Str}{st:Stmt}{f:Addr}{oc:Value}{od an:Option Addr}{oJ:Array (Option Value)}{kV doc pm eN ct:Value}(a:nsIn K mainGlobals x=some (some (.ref f)))
  (l:K.lookup f=some ⟨oc,od,.func (fnOf x x (gg st) (cD st) (aQ st) .none kV doc pm an eN ct),oJ⟩) (c:PySem.W.codeIn K eN x=true) (k:PySem.W.keepIn K (.ref f)=true):du K x st:=⟨f,_,KN l c k,a⟩
section
variable {P:Program}{w:World}{K:Frag}{mg:SV}{base:Heap}
def du.fn {x:Str}{st:Stmt}{N ps:LS}{k:Nat}{g:FS}{h:Heap}(F:du K x st)(X:K.In h)(G:h.Ns mainGlobals mg)(S:FnScope N ps (aQ st))
  (M:∀(kV doc pm:Value)(an:Option Addr)(eN ct:Value)(us:LU),us.length=ps.length->bindArgs (fnOf x x (gg st) (cD st) (aQ st) .none kV doc pm an eN ct) ⟨us,[]⟩=pure (ps.zip us))
  (hb:∀(f:Addr)(eN:Value)(A:Around)(outer:List PySem.Env)(s:Shared)(H:Hp)(E:XK),eW k (A.deeper (envOfC x (aQ st) s.heap.objs.size f eN))->wQ (oK zl P w K mg base N x (aQ st) f eN A outer s H E).nox (cD st) g):
  Fn P w K mg base (k+1) x (aL g ps.length (N.length - ps.length)):=by
 obtain⟨f,fd,O,a⟩:=F;exact⟨f,fd,ps,NM O S (hb f),mg_of X G a,O.kp,O.binds M⟩
end
def NT (H:Hp):Prop:=∀b,H b=none∨(∃o xs,H b=some (.frz o (.lst xs)))∨∃q,H b=some (.tbl q)
noncomputable def pQ (g:List (Addr×Str))(G:Hp):Hp:=λb=>match g.lookup b with|some q=>some (.tbl q)|none=>G b
def gu (e:tabs.lookup b=some q):pQ tabs G b=some (.tbl q):=by unfold pQ;rw[e]
def jh (e:tabs.lookup b=none):pQ tabs G b=G b:=by unfold pQ;rw[e]
def CD {P:Program}{w:World}{K:Frag}{mg mb:SV}{k:Nat}{fa a:Addr}{fd:FuncData}{x:Str}{sp:Sp}{g:Shared}{vs:LU}{ns:LI}(M:List (Addr×Str))
  (ht:∀b q,M.lookup b=some q->g.heap.get? b=some (PySem.W.tabObj #[])/\isCodeTable g.heap b) (Vu:PySem.W.noTabs K=true)
  (KX:K.In g.heap) (MI:g.heap.Ns mainGlobals mg) (hb:g.heap.Ns builtinsNs mb) (Vv:∀x:Str,x ≠ "__name__"->mb x=bootBuiltins x) (Re:g.heap.NoLimit)
  (Vw:∃bm ob,mg "__builtins__" = some (.ref bm)/\bm≠builtinsNs/\g.heap.get? bm=some ob/\ob.cls=.type "module"/\ob.dict=some builtinsNs/\ob.data=.plain) (hg:g.gens=#[])
  (ha:g.heap.get? a=some { cls:=.type "list",data:=.seq vs.toArray }) (hi:IntsAre vs ns) (hl:ns.length<=sizeLine) (hr:eW k callerA)
  (F:∀base:Heap,K.In base->base.Ns mainGlobals mg->sK P w K mg base zl k fa fd [x] sp) (OK:∀(s:Shared)(u:Value),BindsTo s fd ⟨[u],[]⟩ [(x,u)])
  (Vx:∀H:Hp,(∀b q,M.lookup b=some q->H b=some (.tbl q))->gP K H a (ns.map V.int)->sp [.ref a] H (λv _=>v=.bl true) λ_ _ _=>False):
  codeAny (model P w) callerA (.call (.ref fa) ⟨[.ref a],[]⟩) (λr s'=>r=.ok (.ret (.bool true))/\OldK g.heap s'.heap/\s'.os=g.os/\AllBare s'.gens) g:=by
 have rv:=L2.fT hi;have Rf:=hi.length;have OL:∀H:Hp,NT H->(∀b q,M.lookup b=some q->H b=some (.tbl q))->gP K H a (ns.map V.int)->la P w H g.heap->(∀b q,H b=some (.tbl q)->g.heap.get? b=some (PySem.W.tabObj #[])/\isCodeTable g.heap b) ->
   (∀b o u,H b=some (.frz o u)->b=a)->(∀b o u,H b=some (.frz o u)->K.lookup b=none) ->
   codeAny (model P w) callerA (.call (.ref fa) ⟨[.ref a],[]⟩) (λr s'=>r=.ok (.ret (.bool true))/\OldK g.heap s'.heap/\s'.os=g.os/\AllBare s'.gens) g:=by
  intro H hO hT hS hok hA hB hK;have Vy:∀ {b:Addr}{o:Obj},g.heap.get? b=some o->(o.cls≠.none)->(o.cls≠.type "list")->H b=none:=λ{b o} e d d'=>by
   rcases hO b with q|⟨ob,xs,q⟩|⟨u,q⟩
   ·exact q
   ·have e':b=a:=hB b _ _ q;subst e';rw[ha]at e;cases e;exact absurd rfl d'
   ·rw[(hA b u q).1]at e;cases e;exact absurd rfl d
  have Vz:∀ {b:Addr}{o:Obj}{es:Array DictEntry}{ep:Nat},g.heap.get? b=some o->o.data=.dict es ep->H b=none:=λ{b o es ep} e d=>by
   rcases hO b with q|⟨ob,xs,q⟩|⟨u,q⟩
   ·exact q
   ·have e':b=a:=hB b _ _ q;subst e';rw[ha]at e;cases e;cases d
   ·rw[(hA b u q).1]at e;cases e;cases d
  have U:∀ {b:Addr}{m:SV},g.heap.Ns b m->(wV g.heap H).Ns b m:=λ{b m} ⟨o,es,ep,e,d,r⟩=>⟨o,es,ep,p9 e (Vz e d),d,r⟩;have Tk:K.In (wV g.heap H):=λb o e=>p9 (KX b o e) (by
   rcases hO b with q|⟨ob,xs,q⟩|⟨u,q⟩
   ·exact q
   ·rw[hK b _ _ q]at e;cases e
   ·have z:=(hA b u q).1;rw[KX b o e]at z;cases z
    have:=uR Vu _ (PySem.W.mem_of_lookupK e);simp at this)
  have hM:Mod K mg (wV g.heap H):=⟨Tk,U MI,⟨mb,U hb,Vv⟩,let ⟨mc,h1,h2⟩:=Re;⟨mc,U h1,h2⟩,by
   obtain⟨bm,ob,b1,b2,b3,b4,b5⟩:=Vw;exact⟨bm,ob,b1,b2,p9 b3 (Vy b3 (by rw[b4];exact λz=>nomatch z) (by rw[b4];intro z;injection z with z;exact absurd z (by decide))),b4,b5⟩⟩
  have e0:Env0 P w K mg (wV g.heap H) callerA [] g H:=⟨rfl,hM,λb o e=>G1 e,le_of_eq (Cq _ _),trivial,λb hb=>absurd (show b∈([]:List Addr)from hb) (by simp),hok,.of_eq hg⟩;refine codeAny_mono ((F _ Tk (U MI)).run callerA [] g H ⟨[.ref a],[]⟩ [.ref a] [.ref a] _ _ hr e0 (OK g (.ref a)) (.cons rfl .nil) (Vx H hT hS)) λr s' h=>?_;cases r with
  |error e=>exact False.elim h
  |ok fl=>
   cases fl with
   |next=>exact False.elim h
   |brk=>exact False.elim h
   |cont=>exact False.elim h
   |ret u=>
    obtain⟨v,H',os,bare,un,OM,r',q⟩:=h;have q':v=.bl true:=q;subst q';obtain rfl:u=Value.bool true:=r';have kp:∀b o,H b=none->g.heap.get? b=some o->s'.heap.get? b=some o:=λb o n e=>un.keep b o e n (by intro z;exact absurd (show b∈([]:List Addr)from z) (by simp)) (by simp);refine⟨rfl,⟨λb o e=>?_,λb o e=>un.there b o e (by simp)⟩,os,bare⟩;rcases hO b with z|⟨ob,xs,z⟩|⟨u,z⟩
    ·exact .inl (kp b o z e)
    ·have z2:=un.frzs b ob _ z;obtain⟨e1,_⟩:=hok b _ z;obtain⟨e2,_⟩:=OM b _ z2;rw[e]at e1;cases e1;exact .inl e2
    ·obtain⟨e1,e2⟩:=hA b u z;rw[e]at e1;cases e1;obtain⟨ps,e3,_⟩:=OM b _ (un.tbls b u z);exact .inr (.inl ⟨e2,rfl,#[],ps,rfl,by simpa using e3⟩)
 have Mp:∀q,M.lookup a≠some q:=λq z=>by
  have:=(ht a q z).1;rw[ha]at this;cases this
 have ta:M.lookup a=none:=by
  cases z:M.lookup a with
  |none=>rfl
  |some q=>exact absurd z (Mp q)
 have T:∀(G:Hp) b q,M.lookup b=some q->bO P w (pQ M G) g.heap b (.tbl q):=λG b q z=>⟨#[],(ht b q z).1,trivial,λpos cv c=>by cases c⟩;cases hk:K.lookup a with
 |some o=>
  have e:=KX a o hk;rw[ha]at e;cases e
  refine OL (pQ M λ_=>none) (λb=>?_) (λb q z=>gu z) (.inr ⟨_,vs.toArray,_,hk,rfl,rfl,rfl,by rw[vH,Rf];exact hl,by simpa using rv⟩) (λb u z=>?_) (λb q z=>?_) (λb o u z=>?_) λb o u z=>?_
  all_goals cases O:M.lookup b with
   |none=>first|exact .inl (jh O)|(rw[jh O]at z;cases z)
   |some q'=>first|exact .inr (.inr ⟨q',gu O⟩)|(rw[gu O]at z;cases z;done)|(rw[gu O]at z;cases z;first|exact T _ b _ O|exact ht b _ O)
 |none=>
  refine OL (pQ M λb=>if b=a then some (.frz { cls:=.type "list",data:=.seq vs.toArray } (.lst (ns.map V.int)))else none) (λb=>?_) (λb q z=>gu z) (.inl (.inr ⟨{ cls:=.type "list",data:=.seq vs.toArray },by rw[jh ta,if_pos rfl]⟩)) (λb u z=>?_) (λb q z=>?_) (λb o u z=>?_) λb o u z=>?_
  all_goals cases O:M.lookup b with
   |some q'=>first|exact .inr (.inr ⟨q',gu O⟩)|(rw[gu O]at z;cases z;done)|(rw[gu O]at z;cases z;first|exact T _ b _ O|exact ht b _ O)
   |none=>
    first
    |rw[jh O]at z
    |rw[jh O]
    by_cases hb:b=a
    ·first
     |rw[if_pos hb]at z
     |rw[if_pos hb]
     first
     |exact .inr (.inl ⟨_,_,rfl⟩)
     | (cases z;subst hb;exact⟨ha,by rw[vI];exact hl,vs,_,rv,ha⟩)
     |exact hb
     | (rw[hb];exact hk)
     |cases z
    ·first
     | (rw[if_neg hb]at z;cases z)
     |exact .inl (if_neg hb)
noncomputable def vt (L:List (Str×Option (Addr×Addr))):List (Addr×Str):=L.filterMap λp=>p.2.map λq=>(q.2,pK p.1)
structure p8 (K:Frag)(L:List (Str×Option (Addr×Addr))):Prop where
 names:L=lZ.map λx=>(x,PySem.W.tabIn K x)
 apart:((vt L).map (·.1)).Nodup
 none:PySem.W.noTabs K=true
theorem lh {α g:Type}[BEq α][LawfulBEq α]:∀ {l:List (α×g)}{a:α}{b:g},(l.map (·.1)).Nodup->(a,b)∈l->l.lookup a=some b
 | (c,d)::l,a,b,nd,h=>by
  rw[lookup_cons];rcases vP h with e|h
  ·cases e;simp
  ·have ne:a≠c:=λz=>(nodup_cons.mp nd).1 (by rw[←z];exact uS ⟨(a,b),h,rfl⟩);rw[show(a == c)=false by simpa using ne];exact lh (nodup_cons.mp nd).2 h
theorem jY {α g:Type}[BEq α][LawfulBEq α]:∀ {l:List (α×g)}{a:α}{b:g},l.lookup a=some b->(a,b)∈l
 | (c,d)::l,a,b,h=>by
  rw[lookup_cons]at h;cases e:a == c with
  |true=>rw[e]at h;cases h;rw[eq_of_beq e];exact mX
  |false=>rw[e]at h;exact mZ _ (jY h)
def p8.tb {K:Frag}{L:List (Str×Option (Addr×Addr))}(F:p8 K L){H:Hp}(h:∀b q,(vt L).lookup b=some q->H b=some (.tbl q)):Tb K H:=λx hx c P e=>by
 refine h P (pK x) (lh F.apart ?_);rw[F.names];exact mem_filterMap.mpr ⟨(x,PySem.W.tabIn K x),uS ⟨x,hx,rfl⟩,by rw[e];rfl⟩
def tab_yes {K:Frag}{x:Str}{f c P:Addr}{oc G:Value}{od M:Option Addr}{oJ g:Array (Option Value)}{fd:FuncData}{vs:AV}(O:nsIn K mainGlobals x=some (some (.ref f)))(e2:K.lookup f=some ⟨oc,od,.func fd,oJ⟩)(T:fd.code=.ref c)
  (U:K.lookup c=some ⟨G,M,.fields vs,g⟩) (e5:vs[11]? = some (.ref P)):PySem.W.tabIn K x=some (c,P):=by unfold PySem.W.tabIn;simp only[O,e2,T,U,e5]
def tabs_fit {K:Frag}{g G M O:Option (Addr×Addr)}(h0:PySem.W.tabIn K "in_order" = g)(h1:PySem.W.tabIn K "has_seal" = G)(h2:PySem.W.tabIn K "is_first_death" = M)(h3:PySem.W.tabIn K "bases_by" = O)
  (T:((vt [("in_order",g),("has_seal",G),("is_first_death",M),("bases_by",O)]).map (·.1)).Nodup) (nt:PySem.W.noTabs K=true):p8 K [("in_order",g),("has_seal",G),("is_first_death",M),("bases_by",O)] :=
 ⟨by subst h0;subst h1;subst h2;subst h3;rfl,T,nt⟩
def walkD {l:PySem.W.OpenLaw}{q:Program}{O:LS}{XP:SV->Heap->Prop}{YP:World->Heap->Prop}{d:DefRec}{K:Params->Frag}{k:Nat}{x:Str}{f:LD->OB}{L:List (Str×Option (Addr×Addr))}(hn:l.most=some 63)(O8:d.params.defaults=[])(hr:eW k callerA)
  (hY:∀(w:World)(h:Heap),YP w h->(K w.params).In h) (hT:∀w:World,p8 (K w.params) L) (hD:(L.all λp=>p.2.isNone || ((recsOf q).find? λe=>e.name == p.1).isSome)=true)
  (F:∀(w:World)(mg:SV)(fa:Addr)(h:Heap),(K w.params).In h->h.Ns mainGlobals mg->mg d.name=some (.ref fa) ->
   ∃fd:FuncData,(∀(s:Shared)(u:Value),BindsTo s fd ⟨[u],[]⟩ [(x,u)])/\∀base:Heap,(K w.params).In base->base.Ns mainGlobals mg->sK l.prog w (K w.params) mg base zl k fa fd [x] (Hq (K w.params) f))
  (ht:∀ns:LI,ns.length<=63->∃b,f [.lst (ns.map .int)]=some (.bl true,b)):PySem.W.WalkO q O XP YP l.row.toRowW d [] (λf vs=>PySem.call f vs):=by
 refine Att.xh hn O8 λw s₀ s₁ mg mb fa o pm cd doc a vs ns G Y ho hd Mn hmg hobj U M hg=>?_;have KX:=hY w _ Y;obtain⟨fd,hb,hF⟩:=F w mg fa _ KX G.T.g hmg;refine CD (vt L) (λb u e=>?_) (hT w).none KX G.T.g G.T.b G.T.builtins G.T.nolimit G.T.bmain hg hobj U (vR M (by decide)) hr hF hb λH hH hS=>?_
 ·obtain⟨p,hp,e2⟩:=mem_filterMap.mp (jY e);obtain⟨⟨c,P⟩,e3,e4⟩:=oY e2;cases e4
  have Rg:=uR hD p hp;rw[e3]at Rg;rw[Option.isNone_some,Bool.false_or]at Rg;obtain⟨r,V0⟩:=uU Rg;have V1:PySem.W.tabIn (K w.params) p.1=some (c,P):=by
   rw[(hT w).names]at hp;obtain⟨y,_,rfl⟩:=vO hp;exact e3
  obtain⟨h1,h2⟩:=PySem.W.tab_of G.T KX V0 V1;exact⟨h2,(h1.tab h2).isCodeTable⟩
 ·obtain⟨b,e⟩:=ht ns M;exact⟨H,_,_,b,⟨.refl H,(hT w).tb hH⟩,.cons (.lst hS (.flat rfl)) .nil,e,λv H' N x' i' _=>by cases i';rfl⟩
def du.law {P:Program}{w:World}{K:Frag}{mg:SV}{x y:Str}{st:Stmt}{N:LS}{k:Nat}{g:FS}{h:Heap}{fa:Addr}(F:du K x st)(X:K.In h)(G:h.Ns mainGlobals mg)(M:mg x=some (.ref fa))(S:FnScope N [y] (aQ st))
  (O:∀(kV doc pm:Value)(an:Option Addr)(eN ct:Value)(u:Value),bindArgs (fnOf x x (gg st) (cD st) (aQ st) .none kV doc pm an eN ct) ⟨[u],[]⟩=pure [(y,u)])
  (hb:∀(base:Heap),K.In base->base.Ns mainGlobals mg->∀(f:Addr)(eN:Value)(A:Around)(outer:List PySem.Env)(s:Shared)(H:Hp)(E:XK),eW k (A.deeper (envOfC x (aQ st) s.heap.objs.size f eN))->wQ (oK zl P w K mg base N x (aQ st) f eN A outer s H E).nox (cD st) g):
  ∃fd:FuncData,(∀(s:Shared)(u:Value),BindsTo s fd ⟨[u],[]⟩ [(y,u)])/\∀base:Heap,K.In base->base.Ns mainGlobals mg->sK P w K mg base zl (k+1) fa fd [y] (Hq K (aL g 1 (N.length - 1))):=by
 obtain⟨f,fd,T,a⟩:=F;have e:=M.symm.trans (mg_of X G a);cases e
 refine⟨fd,λs u=>?_,λbase U nb=>NM T S (hb base U nb _)⟩;obtain⟨oc,od,kV,doc,pm,an,eN,ct,oJ,rfl,lk,Mn⟩:=T.ex;exact .of_eq (O kV doc pm an eN ct u)
section
variable {X:Cx}{a b e:Expr}{pos:Pos}{x:Str}{p:Pos}
@[simp] noncomputable def Hw:D->D->OB
 |.lst xs,.lst ys=>if xs.length+ys.length<=sizeLine then some (.lst (xs++ys),true)else none
 |_,_=>none
def Lk:dE X (binaryOp .Add) (rD X.K Hw):=by
 intro ae s σ H x y v u Q I rx ry q;obtain⟨B,dx,dy,d,bb,O,ix,iy,M,q⟩:=q;cases ix<;>try (cases M;done)
 all_goals (cases iy<;>try (cases M;done))
 rename_i l vs ds h hl l' ws es h' G;simp only[Hw]at M;split at M
 ·rename_i hz;cases M
  cases rx
  cases ry
  obtain⟨its,T,p1,z1⟩:=I.list (O.seq h);obtain⟨g,U,p2,z2⟩:=I.list (O.seq h');obtain⟨⟨c1,d1,t1,s1⟩,o1,e1,n1,k1⟩:=p1.isList;obtain⟨⟨c2,d2,t2,s2⟩,o2,e2,n2,k2⟩:=p2.isList;dsimp only at e1 k1 e2 k2;subst e1;subst k1;subst e2;subst k2;have hsz:its.toArray.size+g.toArray.size<=sizeLine:=by
   rw[vH,vH,←T.length,←U.length,hl.length,G.length];exact hz
  have ea:its.toArray++g.toArray=(its++g).toArray:=by simp
  refine concat_meets ⟨_,o1,rfl⟩ ⟨_,o2,rfl⟩ noFill_list_add seq_list_add PySem.F.slot_list_add PySem.F.entry_list_add (PySem.F.args_list_add_2 _ _) (list_addW l l' its.toArray g.toArray n1 n2 d1 d2 s1 s2 hsz) ⟨o1,o2,?_⟩;rw[ea];have xt:=Ext.laid (o:=.lst (vs++ws)) O I.fresh;have il:=(hl.append G).mono xt.bn;exact⟨.ref s.heap.objs.size,_,I.lnew (t':=s.toks) (T.append U) (by rw[uZ,hl.length,G.length];exact hz),rfl,q _ _ _ xt (.lst (gP.of aC) il) λ_=>⟨_,_,_,rfl,rfl,I.fresh,aC,il⟩⟩
 ·cases M
@[simp] noncomputable def sn:D->D->OB
 |.tup xs,.tup ys=>if xs.length+ys.length<=sizeLine/\xs.isEmpty=false then some (.tup (xs++ys),false)else none
 |_,_=>none
def Eo:dE X (binaryOp .Add) (rD X.K sn):=by
 refine iP GK λx y H Q q=>?_;obtain⟨B,dx,dy,d,bb,M,U,iy,G,q⟩:=q;cases U<;>try (cases G;done)
 all_goals (cases iy<;>try (cases G;done))
 rename_i l vs ds h hl l' O es h' g;simp only[sn]at G;split at G
 ·rename_i hz;cases G
  have l1:=hl.length;have l2:=g.length;refine⟨l,l',vs,O,rfl,rfl,bu M h,bu M h',λz=>?_,by omega,λz=>?_,λ_ pp hp=>?_⟩
  ·subst z;cases hl
   simp at hz
  ·subst z;cases g
   rw[uQ]at q;exact q.one M (.tup h hl)
  ·have T:=Ext.laid (o:=.tup (vs++O)) M hp;exact q _ _ _ T (.tup (jc.of aC) ((hl.append g).mono T.bn)) (by simp)
 ·cases G
@[simp] noncomputable def Ep:D->D->OB
 |.bl i,.int j=>some (.int ((if i=true then 1 else 0)+j),false)
 |.int i,.bl j=>some (.int (i+b2i j),false)
 |_,_=>none
def Ll:dE X (binaryOp .Add) (rD X.K Ep):=by
 intro ae s σ H x y v u Q I G M q;obtain⟨B,dx,dy,d,bb,O,T,U,g,q⟩:=q;cases T<;>try (cases g;done)
 all_goals (cases U<;>try (cases g;done))
 ·simp only[Ep]at g;cases g
  cases G
  obtain⟨t,rfl⟩:=M;exact IntBool.add_bool_int ⟨.int _,H,I.tok _,⟨_,rfl⟩,q.one O (.int _)⟩
 ·simp only[Ep]at g;cases g
  exact Cu ae s σ H _ _ v u Q I G M ⟨_,_,rfl,rfl,q.one O (.int _)⟩
@[simp] noncomputable def aV:D->D->OB
 |.int i,.int j=>some (.int (i+j),false)
 |.str i,.str j=>if i.length+j.length<=sizeLine then some (.str (i++j),false)else none
 |.lst xs,.lst ys=>if xs.length+ys.length<=sizeLine then some (.lst (xs++ys),true)else none
 |.tup xs,.tup ys=>if xs.length+ys.length<=sizeLine/\xs.isEmpty=false then some (.tup (xs++ys),false)else none
 |.bl i,.int j=>some (.int ((if i=true then 1 else 0)+j),false)
 |.int i,.bl j=>some (.int (i+b2i j),false)
 |_,_=>none
def aM:dE X (binaryOp .Add) (rD X.K aV):=by
 refine iP (r:=rD X.K (DA AR (DA Hw (DA sn Ep)))) (nv Hr (nv Lk (nv Eo Ll))) λx y H Q q=>?_;obtain⟨B,dx,G,d,bb,M,O,T,g,q⟩:=q;refine⟨B,dx,G,d,bb,M,O,T,?_,q⟩;cases dx<;>try (cases g;done)
 all_goals (cases G<;>try (cases g;done))
 all_goals (simp[aV]at g;simp[DA,AR,Hw,sn,Ep,g])
@[simp] noncomputable def Q4:D->Option Bool
 |.bl b=>some b
 |_=>none
def sr:LD->Option (List Bool)
 |[]=>some []
 |d::ds=>(Q4 d).bind λb=>(sr ds).map (b :: ·)
@[simp] def NU:sr []=some []:=rfl
@[simp] def CF (d:D)(ds:LD):sr (d::ds)=(Q4 d).bind λb=>(sr ds).map (b :: ·):=rfl
theorem AY {K:Frag}{B:Hp}:∀ {vs:LV}{ds:LD}{bs:List Bool}{its:LU},L2.bc vs its->IsL K B vs ds->sr ds=some bs->its=bs.map Value.bool
 |_,_,_,_,.nil,.nil,e=>by cases e;rfl
 |_,_,_,_,.cons r G,.cons i M,e=>by
  rw[CF]at e;obtain⟨b,g,e⟩:=oX e;obtain⟨bs,e2,e⟩:=oY e;subst e;cases i<;>simp only[Q4]at g<;>try (cases g;done)
  cases g
  cases r
  rw[AY G M e2];rfl
@[simp] def Uw:LD->OB
 |[.lst ds]=>(sr ds).map λbs=>(.bl (bs.all id),false)
 |_=>none
@[simp] def su:LD->OB
 |[.lst ds]=>(sr ds).map λbs=>(.bl (bs.any id),false)
 |_=>none
def AZ (hc:X.calm=true:=by rfl):bP X (.builtin "any") (AE X.K su):=by
 intro ae s σ H xs us Q I rs q;obtain⟨B,ds,d,bb,sB,i,g,q⟩:=q;match ds,i,g with
 |[.lst es],.cons i1 .nil,g=>
  obtain⟨bs,eb,g⟩:=oY g;cases g
  obtain⟨u1,rfl,r1⟩:=gK rs;cases i1 with
  |@lst l vs _ h hl=>
   cases r1
   obtain⟨its,rv,O,z1⟩:=I.list (sB.seq h);have ei:=AY rv hl eb;have T:l<s.heap.objs.size:=by obtain⟨_,G,_⟩:=O.isList;exact vX G
   refine call_any_walk (wpAny_pyIter_list O.isList ⟨_,_,_,_,_,_,λj=>(bs[j]?).getD false,rfl,Walks.list (A:=X.A.in1) (I.ok.hd hc) s.heap.objs.size l (vS T) its.toArray,⟨⟨_,vY _ rfl,rfl,rfl⟩,O.isList.push _⟩,λj v s' Q' E' hP U=>?_,λh' tk hk=>?_⟩)
   ·have M:its[j]? = some v:=by simpa using hP
    rw[ei,vA]at M;obtain⟨c,e1,e2⟩:=oY M;subst e2;dsimp only at U;rw[e1]at U;exact wpAny_truthy_bool U
   ·have ea:((List.range its.toArray.size).any λj=>(bs[j]?).getD false)=bs.any id:=by
     rw[vH,ei,vI];exact LSm.range_any bs
    rw[ea];refine⟨.bl _,H,I.kept λc o G=>?_,rfl,q.one sB (.bl _)⟩;exact hk c o (λhm=>by rw[uT hm]at G;exact Nat.lt_irrefl _ (vX G)) (vZ _ G)
def Ba:bootBuiltins "any" = some (.builtin "any"):=by decide +kernel
end
noncomputable def P2 (z:Str):It:=⟨λi _=>i<z.cps.size,λi H v H'=>H'=H/\∃c,z.cps[i]? = some c/\v=.str ⟨#[c]⟩,λi _=>z.cps.size<=i⟩
def xE {P:Program}{w:World}{K:Frag}{tg:Expr}(z:Str)(t:Tok)(it:Addr):Turn P w K tg (P2 z) [it] it (λi h=>h.IsStrIter it "str_ascii_iterator" z t i) where
 mem:=mem_singleton.mpr rfl
 obj:=λi h st b hb=>by
  have O:=uT hb;subst O;obtain⟨o,G,_,d1⟩:=st;exact⟨o,G,λv zz=>by rw[d1]at zz;cases zz⟩
 keep:=λi h h' st k=>let ⟨o,G,r⟩:=st;⟨o,k it (mem_singleton.mpr rfl) o G,r⟩
 item:=by
  intro X T hw U hc i ae s σ H E I hf st hg;subst T hw U;have g:i<z.cps.size:=hg;obtain⟨f0,f1,f2,f3,f4,f5⟩:=hf it (mem_singleton.mpr rfl);refine wpAny_pyNext_ascii_item st (c:=z.cps[i]) (by simp[g]) λh' M sb=>?_;obtain⟨o,G,c1,d1⟩:=id M;exact⟨_,rfl,pC (s:={ s with heap:=h',toks:=s.toks+1 }) G c1 d1 (by decide) ⟨.str ⟨#[z.cps[i]]⟩,H,I.turned (λb o hb e2=>(sb.2 b hb).trans e2) f0 f1 f3 f4 f5,⟨_,rfl⟩,⟨rfl,_,by simp[g],rfl⟩,M,λb hb=>(hf b hb).1⟩⟩
 done:=by
  intro X T hw U hc i ae s σ H E I hf st hg;subst T hw U;have g:z.cps.size<=i:=hg;obtain⟨f0,f1,f2,f3,f4,f5⟩:=hf it (mem_singleton.mpr rfl);exact wpAny_pyNext_ascii_end (I.ok.hd hc) st (by simp;omega) λh' O=>⟨rfl,I.turned (t':=s.toks) (λb o hb e2=>O b o hb e2) f0 f1 f3 f4 f5⟩
 self:=λ_ _ _ _ _ st h=>wpAny_pyIter_striter_ascii st h
def xF {P:Program}{w:World}{K:Frag}{tg:Expr}(z:Str)(t:Tok)(it:Addr):Turn P w K tg (P2 z) [it] it (λi h=>h.IsStrIter it "str_iterator" z t i) where
 mem:=mem_singleton.mpr rfl
 obj:=λi h st b hb=>by
  have O:=uT hb;subst O;obtain⟨o,G,_,d1⟩:=st;exact⟨o,G,λv zz=>by rw[d1]at zz;cases zz⟩
 keep:=λi h h' st k=>let ⟨o,G,r⟩:=st;⟨o,k it (mem_singleton.mpr rfl) o G,r⟩
 item:=by
  intro X T hw U hc i ae s σ H E I hf st hg;subst T hw U;have g:i<z.cps.size:=hg;obtain⟨f0,f1,f2,f3,f4,f5⟩:=hf it (mem_singleton.mpr rfl);refine wpAny_pyNext_wide_item st (c:=z.cps[i]) (by simp[g]) λh' M sb=>?_;obtain⟨o,G,c1,d1⟩:=id M;exact⟨_,rfl,pC (s:={ s with heap:=h',toks:=s.toks+1 }) G c1 d1 (by decide) ⟨.str ⟨#[z.cps[i]]⟩,H,I.turned (λb o hb e2=>(sb.2 b hb).trans e2) f0 f1 f3 f4 f5,⟨_,rfl⟩,⟨rfl,_,by simp[g],rfl⟩,M,λb hb=>(hf b hb).1⟩⟩
 done:=by
  intro X T hw U hc i ae s σ H E I hf st hg;subst T hw U;have g:z.cps.size<=i:=hg;obtain⟨f0,f1,f2,f3,f4,f5⟩:=hf it (mem_singleton.mpr rfl);exact wpAny_pyNext_wide_end (I.ok.hd hc) st (by simp;omega) λh' O=>⟨rfl,I.turned (t':=s.toks) (λb o hb e2=>O b o hb e2) f0 f1 f3 f4 f5⟩
 self:=λ_ _ _ _ _ st h=>wpAny_pyIter_striter_wide st h
section
variable {X:Cx}{a b e:Expr}{pos:Pos}{x:Str}{p:Pos}{tg:Expr}
def Er {l:Expr}{tl:TE}(hl:PE X l tl):PI X tg l (λσ H R=>tl σ H λx g=>∃z,x=.str z/\R (P2 z) g):=by
 intro ae s σ H R I h;refine c8 (hl ae s σ H _ I h) λv s1 ⟨x,g,G,M,O⟩=>?_;obtain⟨z,rfl,q⟩:=O;obtain⟨t,rfl⟩:=M;have fp:∀b∈[s1.heap.objs.size],mW X ae g b:=λb hb=>by
  rw[uT hb];exact G.fpOk (vT _) (G.hok.fresh (vT _))
 cases ha:z.cps.all (· < 128) with
 |true=>exact wpAny_pyIter_ascii ha ⟨_,[s1.heap.objs.size],_,_,g,rfl,G.kept (t':=s1.toks) λb o e=>vZ _ e,xE z t _,⟨_,vY _ rfl,rfl,rfl⟩,fp,q⟩
 |false=>exact wpAny_pyIter_wide ha ⟨_,[s1.heap.objs.size],_,_,g,rfl,G.kept (t':=s1.toks) λb o e=>vZ _ e,xF z t _,⟨_,vY _ rfl,rfl,rfl⟩,fp,q⟩
noncomputable def Bb (z:Str):LD:=z.cps.toList.map λc=>.str ⟨#[c]⟩
def Es {K:Frag}{B:Hp}(z:Str):nq K (P2 z) B (Bb z):=by
 intro i H s;refine⟨λd ed=>?_,λhl=>by unfold Bb at hl;show z.cps.size<=i;simpa using hl⟩;unfold Bb at ed;rw[vA]at ed;obtain⟨c,M,rfl⟩:=oY ed;have g:z.cps[i]? = some c:=by simpa using M
 refine⟨(Array.getElem?_eq_some_iff.mp g).1,λv H' hy=>?_⟩;obtain⟨rfl,O,G,rfl⟩:=hy;rw[g]at G;cases G;exact⟨B,.refl s,.str _⟩
@[simp] def Lm:D->Option LD
 |.lst ds=>some ds
 |.tup ds=>some ds
 |.str z=>some (Bb z)
 |_=>none
@[simp] def bV (f:FE):FA:=λρ=>(f ρ).bind λx=>Lm x.1
def cj (h:JE X e f):JI X tg e (bV f):=by
 intro ae s σ H R I q;obtain⟨B,ρ,ds,g,r,G,q⟩:=q;obtain⟨M,ex,es⟩:=oX G;obtain⟨xd,xb⟩:=M;cases xd with
 |lst l=>exact AX h ae s σ H R I ⟨B,ρ,ds,g,r,by unfold Em;rw[ex];exact es,q⟩
 |tup l=>exact AX h ae s σ H R I ⟨B,ρ,ds,g,r,by unfold Em;rw[ex];exact es,q⟩
 |str z=>
  cases es
  refine Er h ae s σ H R I ⟨B,ρ,_,_,g,r,ex,λv O N1 T U _=>?_⟩;cases U
  exact⟨z,rfl,q _ O N1 T (Es z)⟩
 |_=>cases es
def Hx:D9 X (λx lo hi H Q=>∃z,x=.str z/\z.length<=sizeLine/\Q (.str (Txt.slice z lo hi)) H):=by
 intro ae s σ H x v vl O lo hi sl Q I M hs pl G h;obtain⟨z,rfl,hz,q⟩:=h;obtain⟨t,rfl⟩:=M;have iC:∀lo hi,Q (.str (Txt.slice z lo hi)) H->(Txt.slice z lo hi).length<=sizeLine/\∀t' k,EP X ae σ Q (.str (Txt.slice z lo hi) t') { s with toks:=k }:=λlo hi q=>
  ⟨vR (Txt.slice_le z _ _) hz,λt' k=>⟨.str _,H,I.tok k,⟨t',rfl⟩,q⟩⟩
 refine⟨"str",_,PySem.F.slot_str_getitem.lookup,typeIs_str _ _ _,?_⟩;cases pl with
 |none=>
  cases G with
  |none=>exact wpAny_getItem_str_slice (l:=none) (u:=none) (st:=none) hs rfl (post_val_or_str (iC _ _ q))
  |int j g=>exact wpAny_getItem_str_slice (l:=none) (u:=some (j,g)) (st:=none) hs rfl (post_val_or_str (iC _ _ q))
 |int i ti=>
  cases G with
  |none=>exact wpAny_getItem_str_slice (l:=some (i,ti)) (u:=none) (st:=none) hs rfl (post_val_or_str (iC _ _ q))
  |int j g=>exact wpAny_getItem_str_slice (l:=some (i,ti)) (u:=some (j,g)) (st:=none) hs rfl (post_val_or_str (iC _ _ q))
def CG {A:Around}{E:QV}{s:Shared}{prog:Program}{w:World}{t sl:Addr}{items:AV}{vl T:Value}{lo hi:OI}{Q:QV}(g:IsTup s.heap t items)(hs:s.heap.IsSliceOf sl vl T .none)(pl:IsPart vl lo)(U:IsPart T hi)
  (h0:HT.eF items.size 0 lo=0) (h1:HT.eF items.size items.size hi=items.size) (h:Q (.ref t) s):wpAny (model prog w) A (getItem (.ref t) (.ref sl)) Q E s:=by
 obtain⟨os,G,M,QX⟩:=id hs
 have hT:s.TypeIs (.ref sl) "slice":=⟨os,G,M⟩
 unfold getItem
 try with_reducible refine wpAny_holding ?_
 first|refine wX (wY ?_)|skip
 refine wX (wpAny_sequenceKey g.typeIs (by decide) ?_)
 refine wX (wpAny_callSpecial?_slot (name:=Str.ofString "__getitem__") g.typeIs PyProof.Rows.slot_tuple_getitem (wpAny_call_entry PyProof.Rows.slot_tuple_getitem g.typeIs entry_tuple_getitem ?_ (args_tuple_getitem _ _)))
 show wpAny _ _ (Builtin.Tuple.tupleItemsOf (.ref t)>>=_) _ _ s
 refine wX (tupleItemsOf_ g ?_)
 refine wX (wpAny_typeOf hT ?_)
 rw[if_pos (by decide)]
 refine wX (HT.je hs pl U ?_)
 have O:(((HT.eF items.size 0 lo:Nat):Int) == 0 && (1:Int) == 1 && (HT.eF items.size items.size hi - HT.eF items.size 0 lo) == items.size)=true:=by
  rw[h0,h1];simp
 show wpAny _ _ (if(((HT.eF items.size 0 lo:Nat):Int) == 0 && (1:Int) == 1 && (HT.eF items.size items.size hi - HT.eF items.size 0 lo) == items.size)=true then _ else _) _ _ s
 rw[if_pos O]
 refine wX ?_
 unfold Builtin.Tuple.tupleIsExact
 refine wX (wpAny_typeOf g.typeIs (wY ?_))
 show wpAny _ _ (if((Value.type "tuple") == Value.type "tuple")=true then _ else _) _ _ s
 rw[if_pos (by decide)]
 refine wX (wpAny_rule ?_)
 exact wY ⟨_,rfl,wY h⟩
def Hy:D9 X (λx lo hi H Q=>∃a xs,x=.ref a/\jc X.K H a xs/\HT.eF xs.length 0 lo=0/\HT.eF xs.length xs.length hi=xs.length/\Q (.ref a) H):=by
 intro ae s σ H x v vl T lo hi sl Q I M hs pl O h;obtain⟨a,xs,rfl,hx,h0,h1,q⟩:=h;cases M
 obtain⟨its,r,G,hz⟩:=I.tuple hx;have g:its.toArray.size=xs.length:=by rw[vH];exact r.length.symm
 refine⟨"tuple",_,PyProof.Rows.slot_tuple_getitem.lookup,G.typeIs,?_⟩;exact CG G hs pl O (by rw[g];exact h0) (by rw[g];exact h1) ⟨.ref a,H,I,rfl,q⟩
@[simp] def wS (fa:FE)(fl g:FO):FE:=λρ=>(fa ρ).bind λx=>(fl ρ).bind λl=>(g ρ).bind λh=>match x.1 with
 |.lst ds=>some (.lst (pN ds l h),true)
 |.tup ds=>some (.tup (pN ds l h),false)
 |.str z=>if z.length<=sizeLine then some (.str (Txt.slice z l h),false)else none
 |_=>none
def zK {ds:LD}{lo hi:OI}(h0:HT.eF ds.length 0 lo=0)(h1:HT.eF ds.length ds.length hi=ds.length):pN ds lo hi=ds:=by
 unfold pN;rw[h0,h1];simp
def hW {lo hi:Option Expr}{p2:Pos}{fa:FE}{fl U:FO}(ha:JE X e fa)(hl:JO X lo fl)(hh:JO X hi U):JE X (.Subscript e (.Slice lo hi none p2) pos) (wS fa fl U):=by
 refine PE.to (DO (D9.or (D9.or GP KH) (D9.or Hx Hy)) ha hl hh) λσ H Q q=>?_;obtain⟨B,ρ,d,b,sB,r,e,q⟩:=q;obtain⟨x,ex,e⟩:=oX e;obtain⟨l,el,e⟩:=oX e;obtain⟨h,eh,e⟩:=oX e;refine⟨B,ρ,x.1,x.2,sB,r,ex,λv H1 N1 g i1 _=>⟨N1,ρ,l,g.nh,r.mono g.bn,el,λH2 h2=>⟨N1,ρ,h,g.nh.trans h2,r.mono g.bn,eh,λH3 h3=>?_⟩⟩⟩;have G:aW N1 H3:=g.nh.trans (h2.trans h3);have O:=q.into (g.trans (.grow g.nh (h2.trans h3)));obtain⟨xd,xb⟩:=x;dsimp only at e i1;cases i1 with
 |@tup T vs ds hs hv=>
  cases e
  by_cases hw:HT.eF ds.length 0 l=0/\HT.eF ds.length ds.length h=ds.length
  ·rw[zK hw.1 hw.2]at O;exact .inr (.inr ⟨T,vs,rfl,bu G hs,by rw[hv.length];exact hw.1,by rw[hv.length];exact hw.2,O.one G (.tup hs hv)⟩)
  ·refine .inl (.inr ⟨T,vs,rfl,bu G hs,by rw[hv.length];exact hw,λp hp=>?_⟩);have M:=Ext.laid (o:=.tup (se vs l h)) G hp;exact O _ _ _ M (.tup (jc.of aC) ((vk hv).mono M.bn)) (by simp)
 |@lst T vs ds hs hv=>
  cases e
  refine .inl (.inl ⟨T,vs,rfl,G.seq hs,λp hp=>?_⟩);have M:=Ext.laid (o:=.lst (se vs l h)) G hp;exact O _ _ _ M (.lst (gP.of aC) ((vk hv).mono M.bn)) λ_=>⟨p,_,_,rfl,rfl,hp,aC,(vk hv).mono M.bn⟩
 |str z=>
  dsimp only at e;split at e
  ·rename_i hz;cases e
   exact .inr (.inl ⟨z,rfl,hz,O.one G (.str _)⟩)
  ·cases e
 |_=>cases e
noncomputable def vv:Value->D->Bool
 |.none,.non=>true
 |.bool a,.bl b=>a == b
 |.int i _,.int j=>decide (i=j)
 |.str i _,.str j=>decide (i=j)
 |_,_=>false
def j8:LU->LD->Bool
 |[],[]=>true
 |u::us,d::ds=>vv u d && j8 us ds
 |_,_=>false
theorem kK {K:Frag}{B:Hp}:∀ {u:Value}{d:D},vv u d=true->∃v,aU v u/\Is K B v d
 |.none,.non,_=>⟨.non,rfl,.non⟩
 |.bool a,.bl b,h=>by
  have:a=b:=eq_of_beq h;subst this;exact⟨.bl a,rfl,.bl a⟩
 |.int i t,.int j,h=>by
  have:i=j:=of_decide_eq_true h;subst this;exact⟨.int i,⟨t,rfl⟩,.int i⟩
 |.str i t,.str j,h=>by
  have:i=j:=of_decide_eq_true h;subst this;exact⟨.str i,⟨t,rfl⟩,.str i⟩
theorem j9 {K:Frag}:∀ {us:LU}{ds:LD},j8 us ds=true->∃vs,L2.bc vs us/\∀B,IsL K B vs ds
 |[],[],_=>⟨[],.nil,λ_=>.nil⟩
 |u::us,d::ds,h=>by
  rw[j8,vC]at h;obtain⟨vs,r,i⟩:=j9 (K:=K) h.2;obtain⟨v,G,_⟩:=kK (K:=K) (B:=λ_=>none) h.1;refine⟨v::vs,.cons G r,λB=>?_⟩;obtain⟨O,g,T⟩:=kK (K:=K) (B:=B) h.1;have:O=v:=by have M:=G.abs;rw[g.abs]at M;exact vK M
  subst this;exact .cons T (i B)
def const_tup {K:Frag}{y:Str}{a:Addr}{od:Option Addr}{its:AV}{n:Nat}{oJ:Array (Option Value)}{ds:LD}(e:nsIn K mainGlobals y=some (some (.ref a)))
  (l:K.lookup a=some ⟨.type "tuple",od,.seq its n,oJ⟩) (h:(decide (its.size<=1000) && j8 its.toList ds)=true):∃u v,nsIn K mainGlobals y=some (some u)/\aU v u/\∀B,Is K B v (.tup ds):=by
 rw[vC]at h;obtain⟨vs,r,i⟩:=j9 (K:=K) h.2;exact⟨_,.ref a,e,rfl,λB=>.tup (.inr ⟨_,its,n,l,rfl,rfl,le_of_lt (lt_of_le_of_lt (of_decide_eq_true h.1) (by decide)),r⟩) (i B)⟩
end
section
variable {X:Cx}{a b o e:Expr}{pos:Pos}{x:Str}{p:Pos}{tg:Expr}
def Ln {name:Str}{id:String}{cG bR:Pos}{op:D->D->OB}{fo fe:FE}(slot:Slot "str" name id)(V2:typeOf (.builtin id)=pure (.type "method_descriptor"))
  (hm:GN X id (λx xs H Q=>∃y,xs=[y]/\rD X.K op x y H Q)) (T:∀dx dy r,op dx dy=some r->∃z,dx=.str z) (ho:JE X o fo) (he:JE X e fe)
  (g:attributeBase o name X.env (eval o X.env)=eval o X.env:=by rfl)
  (U:((backTo bR (starEach [e] X.env)).all (λx=>!x.1) && (backToKw bR (keywordEach [] X.env)).all (λx=>x.1.isSome)
   && decide ([e].length+([]:List Keyword).length+(if([]:List Keyword).isEmpty then 0 else 1)<30))=true:=by rfl)
  (G:(cG.endLine == bR.line)=true:=by rfl) (hs:starEach [e] X.env=[(false,eval e X.env)]:=by rfl):
  JE X (.Call (.Attribute o name cG) [e] [] bR) (f2 op fo fe):=by
 refine PE.to (xg PySem.F.plainAttrs_str slot V2 hm ho (ee he gE hs) g U G hs rfl) λσ H Q q=>?_;obtain⟨B,ρ,d,bb,sB,r,O,q⟩:=q;obtain⟨x1,ex,O⟩:=oX O;obtain⟨y1,ey,O⟩:=oX O;obtain⟨z,hz⟩:=T _ _ _ O;refine⟨B,ρ,x1.1,x1.2,sB,r,ex,λv H1 N1 M i1 _=>?_⟩;rw[hz]at i1;cases i1
 refine⟨show "str" = "str" from rfl,N1,ρ,y1.1,y1.2,M.nh,r.mono M.bn,ey,λv2 H2 N2 ON i2 _=>⟨v2,rfl,N2,.str z,y1.1,d,bb,ON.nh,.str z,i2,by rw[←hz];exact O,q.into (M.trans ON)⟩⟩
@[simp] noncomputable def Lo:D->Option Str
 |.str z=>some z
 |_=>none
def gy:LD->Option LS
 |[]=>some []
 |d::ds=>(Lo d).bind λz=>(gy ds).map (z :: ·)
@[simp] def MB:gy []=some []:=rfl
@[simp] def zL (d:D)(ds:LD):gy (d::ds)=(Lo d).bind λz=>(gy ds).map (z :: ·):=rfl
@[simp] def MC (zs:LS):gy (zs.map D.str)=some zs:=by
 induction zs with
 |nil=>rfl
 |cons z zs g=>simp[g]
theorem ji {K:Frag}{B:Hp}:∀ {vs:LV}{ds:LD}{zs:LS}{its:LU},L2.bc vs its->IsL K B vs ds->gy ds=some zs->StrsAre its zs
 |_,_,_,_,.nil,.nil,e=>by cases e;exact .nil
 |_,_,_,_,.cons r G,.cons i M,e=>by
  rw[zL]at e;obtain⟨z,g,e⟩:=oX e;obtain⟨zs,e2,e⟩:=oY e;subst e;cases i<;>simp only[Lo]at g<;>try (cases g;done)
  cases g
  obtain⟨t,rfl⟩:=r;exact .cons _ t (ji G M e2)
@[simp] def oi:D->D->OB
 |.str g,.lst ds=>(gy ds).bind λzs=>if(zs.map (·.length)).sum+zs.length*g.length<=16777216 then some (.str (Txt.join g zs),false)else none
 |.str g,.tup ds=>(gy ds).bind λzs=>if(zs.map (·.length)).sum+zs.length*g.length<=16777216 then some (.str (Txt.join g zs),false)else none
 |_,_=>none
def Lp:GN X "str.join" (λx xs H Q=>∃y,xs=[y]/\rD X.K oi x y H Q):=by
 intro ae s σ H x xs v us Q I rx rs h;obtain⟨y,rfl,B,dx,dy,d,bb,G,ix,iy,g,q⟩:=h;obtain⟨u1,rfl,U⟩:=gK rs;cases ix<;>(try (simp[oi]at g;done))
 obtain⟨t,rfl⟩:=rx;cases iy<;>(try (simp[oi]at g;done))
 ·rename_i h hl;simp only[oi]at g;obtain⟨zs,M,g⟩:=oX g;split at g
  ·rename_i hok;cases g
   cases U
   obtain⟨its,O,T,z1⟩:=I.tuple (bu G h);exact join_tuple T (by simpa using ji O hl M) hok λt' k=>⟨.str _,H,I.tok k,⟨t',rfl⟩,q.one G (.str _)⟩
  ·cases g
 ·rename_i h hl;simp only[oi]at g;obtain⟨zs,M,g⟩:=oX g;split at g
  ·rename_i hok;cases g
   cases U
   obtain⟨its,O,T,z1⟩:=I.list (G.seq h);exact join_list T.isList (by simpa using ji O hl M) hok λt' k=>⟨.str _,H,I.tok k,⟨t',rfl⟩,q.one G (.str _)⟩
  ·cases g
def Et (dx g:D)(r:D×Bool)(h:oi dx g=some r):∃z,dx=.str z:=by
 cases dx<;>first|exact⟨_,rfl⟩|(cases g<;>simp[oi]at h)
noncomputable def fQ:LN->LD->Env->Option Env
 |[],[],ρ=>some ρ
 |i::is,d::ds,ρ=>fQ is ds (ρ.set i (some (d,false)))
 |_,_,_=>none
@[simp] def tq (ρ:Env):fQ [] [] ρ=some ρ:=by rw[fQ]
@[simp] def lC (i:Nat)(is:LN)(d:D)(ds:LD)(ρ:Env):fQ (i::is) (d::ds) ρ=fQ is ds (ρ.set i (some (d,false))):=by rw[fQ]
@[simp] def NV (d:D)(ds:LD)(ρ:Env):fQ [] (d::ds) ρ=none:=by simp only[fQ]
@[simp] def NW (i:Nat)(is:LN)(ρ:Env):fQ (i::is) [] ρ=none:=by simp only[fQ]
@[simp] def Hz (is:LN):FG:=λd ρ=>match d with|.tup ds=>fQ is ds ρ|_=>none
def lD:LN->Jh
 |[]=>Ng
 |i::is=>Ji (jd i) (lD is)
def Eu:aW (dn N (own σ ρ)) (dn N (own (σ.set i (some v)) (ρ.set i (some (d,false))))):=dF λa u e q=>⟨e,λz=>q (by
 rcases uM z with⟨_,d',p⟩|⟨j,_,d',g,G⟩
 ·cases p
 ·exact⟨j,d',g,G⟩)⟩
theorem kL {K:Frag}:∀ {is:LN}{vs:LV}{ds:LD}{B0 H0 N H:Hp}{σ:St}{ρ ρ':Env}{Q:St->Hp->Prop},dC K B0 H0 N H σ ρ->IsL K (dn N (own σ ρ)) vs ds->fQ is ds ρ=some ρ'->(∀g,dC K B0 H0 N H g ρ'->Q g H)->lD is vs σ H Q
 |[],_,_,_,_,_,_,_,_,_,_,s,.nil,e,k=>by
  rw[tq]at e;cases e;exact⟨rfl,k _ s⟩
 |[],_,_,_,_,_,_,_,_,_,_,_,.cons _ _,e,_=>by simp at e
 |_::_,_,_,_,_,_,_,_,_,_,_,_,.nil,e,_=>by simp at e
 |i::is,_,_,_,_,_,_,_,_,_,_,s,.cons h hs,e,k=>by
  rw[lC]at e;exact⟨_,_,rfl,kL (s.bind h) (hs.mono Eu) e k⟩
theorem kM:∀ {is:LN}{ds:LD}{ρ ρ':Env},fQ is ds ρ=some ρ'->ds.length=is.length
 |[],[],_,_,_=>rfl
 |_::_,_::_,_,_,e=>by rw[lC]at e;simp[kM e]
 |[],_::_,_,_,e=>by simp at e
 |_::_,[],_,_,e=>by simp at e
def NX {K:Frag}{is:LN}:Hd K (Hz is) (Kx K is.length (lD is)):=by
 intro B0 H0 N H σ ρ ρ' v d Q s h e k;cases h with
 |@tup a vs ds M hl=>
  have G:fQ is ds ρ=some ρ':=e;exact⟨a,vs,rfl,bu (bI.trans s.ext.nh) M,by rw[hl.length];exact kM G,kL s hl G λg s'=>k g H ⟨N,s'⟩⟩
 |_=>cases e
theorem tu {K:Frag}{n:Nat}{B H:Hp}{G:Env}{Q:St->Hp->Prop}(cl:∀i,i<n->G[i]? = some none):∀ {is:LN}{vs:LV}{ds:LD}{σ:St}{ρ M:Env},(∀i∈is,i<n)->fP K B σ ρ->IsL K B vs ds->fQ is ds ρ=some M->ρ.length=σ.length->ρ.length=G.length ->
  (∀g,fP K B g M->(∀T,fP K T σ G->fP K T g G)->G.length=g.length->Q g H)->lD is vs σ H Q
 |[],_,_,_,_,_,_,rp,.nil,e,U,l2,k=>by
  rw[tq]at e;cases e;exact⟨rfl,k _ rp (λ_ z=>z) (by omega)⟩
 |[],_,_,_,_,_,_,_,.cons _ _,e,_,_,_=>by simp at e
 |_::_,_,_,_,_,_,_,_,.nil,e,_,_,_=>by simp at e
 |i::is,_,_,σ,ρ,_,hn,rp,.cons (v:=v) h hs,e,U,l2,k=>by
  rw[lC]at e;have hi:=hn i mX;have O:i<σ.length:=by
   have:=(vV (cl i hi)).1;omega
  refine⟨_,_,rfl,tu cl (λj hj=>hn j (mZ _ hj)) ⟨rp.tb,λj d b q=>?_⟩ hs e (by simpa using U) (by simpa using l2) λg r1 r2 l=>k g r1 (λT z=>r2 T ⟨z.tb,λj d b q=>?_⟩) l⟩
  ·rcases ca q with⟨rfl,pp⟩|⟨ne,pp⟩
   ·cases pp
    exact⟨v,by simp[O],h⟩
   ·obtain⟨w,h1,h2⟩:=rp.at' j d b pp;exact⟨w,by rw[vB ne];exact h1,h2⟩
  ·obtain⟨w,h1,h2⟩:=z.at' j d b q;have ne:i≠j:=λz=>by subst z;rw[cl i hi]at q;cases q
   exact⟨w,by rw[vB ne];exact h1,h2⟩
def Jv {K:Frag}{n:Nat}{is:LN}(hn:∀i∈is,i<n):Js K n (Hz is) (Kx K is.length (lD is)):=by
 intro B H σ ρ g v d Q cl rep s h e hl k;cases h with
 |@tup a vs ds M hv=>
  have G:fQ is ds ρ=some g:=e;exact⟨a,vs,rfl,bu s M,by rw[hv.length];exact kM G,tu cl hn rep hv G hl rfl k⟩
 |_=>cases e
end
section
variable {prog:Program}{w:World}{A:Around}{E:QV}{s:Shared}
def zM (st:s.heap.IsTupleIter it l i)(g:s.heap.IsTuple l items)(hv:items[i]? = some v)
  (k:∀h',h'.IsTupleIter it l (i+1)->Heap.SameBut it s.heap h'->Q v { s with heap:=h' }):wpAny (model prog w) A (Builtin.SmallTypes.nextOf (.ref it)) Q E s:=by
 obtain⟨O,g1,G,d1⟩:=id st;obtain⟨T,M,_,n2,d2⟩:=g;unfold Builtin.SmallTypes.nextOf;refine wX (wpAny_callSpecial?_slot (name:=Str.ofString "__next__") st.typeIs slot_tuple_iterator_next (wpAny_call_entry slot_tuple_iterator_next st.typeIs PySem.F.entry_tuple_iterator_next ?_ (PySem.F.args_tuple_iterator_next_1 _)));show wpAny _ _ (field (.ref it) 0>>=_) _ _ _;refine wX (wpAny_field g1 d1 (x:=.ref l) rfl ?_);show wpAny _ _ (if(Value.ref l == Value.none)=true then _ else _) _ _ _;rw[if_neg (λz=>uX z:¬((Value.ref l == Value.none)=true))];show wpAny _ _ (field (.ref it) 1>>=_) _ _ _;refine wX (wpAny_field g1 d1 (x:=.int i 0) rfl ?_);show wpAny _ _ (seqItems? (.ref l)>>=_) _ _ _;refine wX (wpAny_seqItems M d2 ?_);simp only[hv,toNat_natCast];refine wX (wpAny_setField g1 d1 (by simp) (wY ⟨v,rfl,wY (k _ ?_ (vW ..))⟩));exact⟨_,Heap.get?_update_self _ g1 (Obj.isFreed_of_fields (Obj.data_mapFields d1 _)),(Obj.cls_mapFields ..).trans G,by rw[Obj.data_mapFields d1];simp[rawInt]⟩
def CH (g:A.handled=none)(st:s.heap.IsTupleIter it l i)(G:s.heap.IsTuple l items)(hv:items[i]? = none)
  (k:∀h' x,Heap.ExtBut it s.heap h'->(∃o,h'.get? x=some o/\o.cls=.type "StopIteration")->E (.ref x) { s with heap:=h' }):wpAny (model prog w) A (Builtin.SmallTypes.nextOf (.ref it)) Q E s:=by
 obtain⟨O,g1,T,d1⟩:=id st;obtain⟨U,M,_,n2,d2⟩:=G;unfold Builtin.SmallTypes.nextOf;refine wX (wpAny_callSpecial?_slot (name:=Str.ofString "__next__") st.typeIs slot_tuple_iterator_next (wpAny_call_entry slot_tuple_iterator_next st.typeIs PySem.F.entry_tuple_iterator_next ?_ (PySem.F.args_tuple_iterator_next_1 _)));show wpAny _ _ (field (.ref it) 0>>=_) _ _ _;refine wX (wpAny_field g1 d1 (x:=.ref l) rfl ?_);show wpAny _ _ (if(Value.ref l == Value.none)=true then _ else _) _ _ _;rw[if_neg (λz=>uX z:¬((Value.ref l == Value.none)=true))];show wpAny _ _ (field (.ref it) 1>>=_) _ _ _;refine wX (wpAny_field g1 d1 (x:=.int i 0) rfl ?_);show wpAny _ _ (seqItems? (.ref l)>>=_) _ _ _;refine wX (wpAny_seqItems M d2 ?_);simp only[hv,toNat_natCast];refine wX (wpAny_rule (wX (wpAny_setField g1 d1 (by simp) ?_)));show wpAny _ _ (newExc (.type "StopIteration") []>>=_) _ _ _;refine wX ?_;simp only[newTuple,newExc];refine wX (wpAny_newObj_type ?_ (by size_fits));refine wX (m:=firstArgMember _ _) (wpAny_of_eq (a:=Value.none) (by first|(simp only[firstArgMember];rfl)|rfl) ?_);refine wpAny_newObj_type ?_ (by size_fits);simp only[raiseNew];refine wX (wpAny_handled ?_);first|rw[g]|rw[show A.in1.handled=none from g]
 exact wX (wY (wpAny_throw (k _ _ (((vW ..).extBut.push _).push _) ⟨_,vY _ rfl,rfl⟩)))
end
def Bc:Bool->Heap->Addr->Addr->Nat->Prop
 |true,h,it,a,i=>h.IsListIter it a i
 |false,h,it,a,i=>h.IsTupleIter it a i
def zo:Bool->Heap->Addr->AV->Prop
 |true,h,a,items=>h.IsList a items
 |false,h,a,items=>h.IsTuple a items
def zp (k:Bool)(K:Frag)(H:Hp)(a:Addr)(xs:LV):Prop:=match k with|true=>gP K H a xs|false=>jc K H a xs
def Bc.ob (st:Bc k h it a i):∃o,h.get? it=some o/\∀v,o.data≠.cell v:=by
 cases k<;>(obtain⟨o,g,_,d⟩:=st;exact⟨o,g,λv z=>by rw[d]at z;cases z⟩)
def Bc.upon (st:Bc k h it a i)(g:∀o,h.get? it=some o->h'.get? it=some o):Bc k h' it a i:=by
 cases k<;>(obtain⟨o,e,r⟩:=st;exact⟨o,g o e,r⟩)
def zo.upon (st:zo k h a items)(g:∀o,h.get? a=some o->h'.get? a=some o):zo k h' a items:=by
 cases k<;>(obtain⟨o,e,r⟩:=st;exact⟨o,g o e,r⟩)
def zo.lt (st:zo k h a items):a<h.objs.size:=by
 cases k<;>(obtain⟨o,e,r⟩:=st;exact vX e)
def zp.same {k:Bool}{K:Frag}{H H':Hp}{a:Addr}{xs:LV}(h:zp k K H a xs)(e:aW H H'):zp k K H' a xs:=by
 cases k
 ·exact bu e h
 ·exact e.seq h
def zp.vals (I:Inv X ae σ H s)(h:zp k X.K H a xs):∃its:LU,bc xs its/\zo k s.heap a its.toArray/\xs.length<=sizeLine:=by
 cases k
 ·exact I.tuple h
 ·obtain⟨its,r,p,z⟩:=I.list h;exact⟨its,r,p.isList,z⟩
def zp.inj (I:Inv X ae σ H s)(h:zp k X.K H a xs)(h':zp k X.K H a ys):xs=ys:=by
 cases k
 ·exact I.tuple_inj h h'
 ·exact I.list_inj h h'
section
variable {prog:Program}{w:World}{A:Around}{E:QV}{s:Shared}
def CJ (st:Bc k s.heap it l i)(g:zo k s.heap l items)(hv:items[i]? = some v)
  (q:∀h',Bc k h' it l (i+1)->Heap.SameBut it s.heap h'->Q v { s with heap:=h' }):wpAny (model prog w) A (Builtin.SmallTypes.nextOf (.ref it)) Q E s:=by
 cases k
 ·exact zM st g hv q
 ·exact wpAny_nextOf_list_item st g hv q
def xG (g:A.handled=none)(st:Bc k s.heap it l i)(G:zo k s.heap l items)(hv:items[i]? = none)
  (q:∀h' x,Heap.ExtBut it s.heap h'->(∃o,h'.get? x=some o/\o.cls=.type "StopIteration")->E (.ref x) { s with heap:=h' }):wpAny (model prog w) A (Builtin.SmallTypes.nextOf (.ref it)) Q E s:=by
 cases k
 ·exact CH g st G hv q
 ·exact wpAny_nextOf_list_end g st G hv q
end
noncomputable def Lq (k:Bool)(l:Addr):Obj:={ cls:=.type (if k=true then "list_iterator" else "tuple_iterator"),data:=.fields #[.ref l,.int 0 0] }
def vw (g:zo k s.heap l items)
  (q:Q (.ref s.heap.objs.size) { s with heap:=s.heap.push (Lq k l) }):wpAny (model prog w) A (pyIter (.ref l)) Q E s:=by
 cases k
 ·exact wpAny_pyIter_tuple g q
 ·exact wpAny_pyIter_list g q
def zo.push (st:zo k h a items)(o:Obj):zo k (h.push o) a items:=st.upon λ_ e=>vZ _ e
def oZ {X:Cx}{ae:AO}{σ:St}{H:Hp}{s:Shared}{h':Heap}{t':Nat}{ch:List Addr}(I:Inv X ae σ H s)(f:∀b∈ch,mW X ae H b)(k:∀b o,b∉ch->s.heap.get? b=some o->h'.get? b=some o):Inv X ae σ H { s with heap:=h',toks:=t' }:=by
 have g:∀b u,H b=some u->b∉ch:=λb u e z=>by rw[(f b z).1]at e;cases e
 refine I.step (g':=s.gens) (d':=s.drawn) (ch:=ch) (λb hb=>?_) (λb o _ _ hc e _=>k b o hc e) (λb o _ _ hc e _=>⟨o.slots,k b o hc e⟩) (λ_ _ _ _ n=>n)
  (λb o hc e=>⟨o,k b o hc e⟩) (λ_ _ e=>e) (λ_ _ _ e=>e) (λ_ _ e=>e) (λm hm=>?_) (λb u e=>?_) I.bare
 ·obtain⟨_,f1,_,f3,f4,f5⟩:=f b hb;exact⟨f3,f1,f4,f5⟩
 ·obtain⟨o,es,G,M,r⟩:=hm;exact⟨o,es,G,k _ o (λz=>(f _ z).2.1 rfl) M,r⟩
 ·refine(I.hok b u e).stay (λc v hc q=>k c v ?_ q) (λ_ q=>q) (λ_ _ q=>q) λ_ _ _ q=>q;rcases hc with z|z
  ·rw[z];exact g b u e
  ·exact g c _ z
def Jw {X:Cx}{ae:AO}{σ:St}{H:Hp}{s:Shared}{h':Heap}{t':Nat}{ch:List Addr}{a:Addr}{ob:HO}(I:Inv X ae σ H s)(f:∀b∈ch,mW X ae H b)(k:∀b o,b∉ch->s.heap.get? b=some o->h'.get? b=some o)(ha:s.heap.objs.size<=a)
  (new:bO X.prog X.w (upd H a ob) h' a ob):Inv X ae σ (upd H a ob) { s with heap:=h',toks:=t' }:=by
 have hn:H a=none:=I.hok.fresh ha;have g:∀b u,H b=some u->b∉ch:=λb u e z=>by rw[(f b z).1]at e;cases e
 have G:∀b o,s.heap.get? b=some o->b≠a:=λb o e=>vS (vQ (vX e) ha);refine I.step (g':=s.gens) (d':=s.drawn) (ch:=ch) (λb hb=>?_) (λb o _ _ hc e _=>k b o hc e) (λb o _ _ hc e _=>⟨o.slots,k b o hc e⟩) (λb o _ e n=>by rw[aJ (G b o e)];exact n)
  (λb o hc e=>⟨o,k b o hc e⟩) (λb xs e=>by rw[aJ (bd e hn)];exact e) (λb o u e=>by rw[aJ (bd e hn)];exact e) (λb ps e=>by rw[aJ (bd e hn)];exact e) (λm hm=>?_) (λb u e=>?_) I.bare
 ·obtain⟨_,f1,_,f3,f4,f5⟩:=f b hb;exact⟨f3,f1,f4,f5⟩
 ·obtain⟨o,es,M,O,r⟩:=hm;exact⟨o,es,M,k _ o (λz=>(f _ z).2.1 rfl) O,r⟩
 ·by_cases hb:b=a
  ·subst hb;rw[aC]at e;cases e;exact new
  ·rw[aJ hb]at e;refine(I.hok b u e).stay (λc v hc q=>k c v ?_ q) (λc q=>?_) (λc xs q=>?_) λc o xs q=>?_
   ·rcases hc with z|z
    ·rw[z];exact g b u e
    ·exact g c _ z
   ·rw[aJ (bd q hn)];exact q
   ·rw[aJ (bd q hn)];exact q
   ·rw[aJ (bd q hn)];exact q
section
variable {X:Cx}{a b e:Expr}{pos:Pos}{p:Pos}
def Jx {K:Frag}{B:Hp}{v:V}{d:D}{ds:LD}(h:Is K B v d)(e:hU d=some ds):∃k a vs,v=.ref a/\zp k K B a vs/\IsL K B vs ds:=by
 cases h with
 |tup g hl=>cases e;exact⟨false,_,_,rfl,g,hl⟩
 |lst g hl=>cases e;exact⟨true,_,_,rfl,g,hl⟩
 |_=>cases e
end
noncomputable def unown1 (ρ:Env)(i:Nat):Env:=match ρ[i]? with
 |some (some (d,true))=>ρ.set i (some (d,false))
 |_=>ρ
def dC.unown1 {K:Frag}{B0 H0 N H:Hp}{σ:St}{ρ:Env}(s:dC K B0 H0 N H σ ρ)(i:Nat):dC K B0 H0 N H σ (unown1 ρ i):=by
 unfold DL.unown1;split
 ·rename_i d hd;obtain⟨a,ob,h1,h2,h3,h4⟩:=s.ow i d hd;have get:∀ {j:Nat}{e:D}{b:Bool},(ρ.set i (some (d,false)))[j]? = some (some (e,b))->(i=j/\e=d/\b=false)∨(i≠j/\ρ[j]? = some (some (e,b))):=λq=>by
   rcases ca q with⟨z,p⟩|⟨z,p⟩
   ·cases p;exact .inl ⟨z,rfl,rfl⟩
   ·exact .inr ⟨z,p⟩
  have o:∀c,own σ (ρ.set i (some (d,false))) c->own σ ρ c/\c≠a:=λc ⟨j,e,M,G⟩=>by
   rcases get M with⟨_,_,z⟩|⟨ne,q⟩
   ·cases z
   ·exact⟨⟨j,e,q,G⟩,λz=>by subst z;exact ne (s.inj i j _ _ _ hd q h1 G)⟩
  have c:aW (dn N (own σ ρ)) (dn N (own σ (ρ.set i (some (d,false))))):=dF λb u e q=>⟨e,λz=>q (o b z).1⟩;have O:¬own σ (ρ.set i (some (d,false))) a:=λz=>(o a z).2 rfl;refine⟨s.bh,s.tb,s.ext,by rw[length_set];exact s.len,λj e q=>?_,λj e q=>?_,λj k b e f q g T U=>?_⟩
  ·rcases get q with⟨rfl,rfl,_⟩|⟨_,q⟩
   ·exact⟨_,h1,(h4.mono c).is (by rw[cH O];exact h2)⟩
   ·obtain⟨v,k1,k2⟩:=s.sh j e q;exact⟨v,k1,k2.mono c⟩
  ·rcases get q with⟨_,_,z⟩|⟨_,q⟩
   ·cases z
   ·obtain⟨a',o',k1,k2,k3,k4⟩:=s.ow j e q;exact⟨a',o',k1,k2,k3,k4.mono c⟩
  ·rcases get q with⟨_,_,z⟩|⟨_,q⟩
   ·cases z
   ·rcases get g with⟨_,_,z⟩|⟨_,g⟩
    ·cases z
    ·exact s.inj j k b e f q g T U
 ·exact s
@[simp] noncomputable def Go (is:LN)(g:FS):FS:=λρ=>g (is.foldl unown1 ρ)
theorem dC.unowns {K:Frag}{B0 H0 N H:Hp}{σ:St}:∀(is:LN){ρ:Env},dC K B0 H0 N H σ ρ->dC K B0 H0 N H σ (is.foldl DL.unown1 ρ)
 |[],_,s=>s
 |i::is,_,s=>dC.unowns is (s.unown1 i)
def Lr {K:Frag}{is:LN}{g:FS}{E:Ends}{σ:St}{H:Hp}(q:lS K (Go is g) E σ H):lS K g E σ H:=by
 obtain⟨B0,H0,ρ,r,⟨N,s⟩,e,p⟩:=q;exact⟨B0,H0,_,r,⟨N,s.unowns is⟩,e,p⟩
def tz {X:Cx}{st:Stmt}{g:FS}(is:LN)(h:JS X st g):JS X st (Go is g):=PS.to h λ_ _ _ q=>Lr q
@[simp] noncomputable def Jy:FS:=λρ=>some (.ct ρ)
section
variable {X:Cx}{pos:Pos}
def HA:JS X (.Continue pos) Jy:=PS.to xa λE σ H q=>by
 obtain⟨B0,H0,ρ,r,s,e,p⟩:=q;cases e
 exact p σ H s
end
inductive CRows (K:Frag)(P:Params):List DictEntry->List (Str×D)->Prop where
 |nil:CRows K P [] []
 |tup {x:Str}{t:Tok}{h:Int}{a:Addr}{its:Array Value}{n:Nat}{oJ:Array (Option Value)}{ds:List D}{r:List DictEntry}{aG:List (Str×D)}(hh:h=PyData.keyHash P x)
   (l:K.lookup a=some ⟨.type "tuple",none,.seq its n,oJ⟩) (f:(decide (its.size<=1000) && j8 its.toList ds)=true) (tl:CRows K P r aG):CRows K P (⟨h,.str x t,.ref a⟩::r) ((x,.tup ds)::aG)
 |flat {x:Str}{t:Tok}{h:Int}{u:Value}{d:D}{r:List DictEntry}{aG:List (Str×D)}(hh:h=PyData.keyHash P x) (f:vv u d=true) (tl:CRows K P r aG):CRows K P (⟨h,.str x t,u⟩::r) ((x,d)::aG)
theorem CRows.lit {K:Frag}{P:Params}:∀ {es:List DictEntry}{aG:List (Str×D)},CRows K P es aG->PySem.W.KeysLit P es
 |_,_,.nil=>trivial
 |_,_,.tup hh _ _ tl=>⟨⟨_,_,rfl,hh⟩,tl.lit⟩
 |_,_,.flat hh _ tl=>⟨⟨_,_,rfl,hh⟩,tl.lit⟩
theorem CRows.find {K:Frag}{P:Params}(y:Str):∀ {es:List DictEntry}{aG:List (Str×D)},CRows K P es aG->match aG.lookup y with
  |none=>es.find? (λe=>Value.isStrOf y e.key)=none
  |some d=>∃e v,es.find? (λe=>Value.isStrOf y e.key)=some e/\aU v e.val/\∀B,Is K B v d
 |_,_,.nil=>rfl
 |_,_,.tup (x:=x) (t:=t) (a:=a) (ds:=ds) hh l f tl=>by
  by_cases e:y=x
  ·subst e;rw[lookup_cons_self];rw[vC]at f;obtain⟨vs,r,i⟩:=j9 (K:=K) f.2;exact⟨_,.ref a,List.find?_cons_of_pos (by simp[Value.isStrOf]),rfl,λB=>.tup (.inr ⟨_,_,_,l,rfl,rfl,le_of_lt (lt_of_le_of_lt (of_decide_eq_true f.1) (by decide)),r⟩) (i B)⟩
  ·have g:=tl.find y;rw[lookup_cons,beq_eq_false_iff_ne.mpr e];have G:Value.isStrOf y (Value.str x t)=false:=by
    rw[eq_false_iff];intro z;obtain⟨t',q⟩:=Value.isStrOf_shape z;injection q with M;exact e M.symm
   simp only[find?_cons,G];exact g
 |_,_,.flat (x:=x) (t:=t) (u:=u) (d:=d) hh f tl=>by
  by_cases e:y=x
  ·subst e;rw[lookup_cons_self];obtain⟨v,T,_⟩:=kK (K:=K) (B:=λ_=>none) f;refine⟨_,v,List.find?_cons_of_pos (by simp[Value.isStrOf]),T,λB=>?_⟩;obtain⟨v',O,i'⟩:=kK (K:=K) (B:=B) f;have:v'=v:=by have U:=T.abs;rw[O.abs]at U;exact vK U
   subst this;exact i'
  ·have g:=tl.find y;rw[lookup_cons,beq_eq_false_iff_ne.mpr e];have G:Value.isStrOf y (Value.str x t)=false:=by
    rw[eq_false_iff];intro z;obtain⟨t',q⟩:=Value.isStrOf_shape z;injection q with M;exact e M.symm
   simp only[find?_cons,G];exact g
def t0 (K:Frag)(P:Params)(a:Addr)(aG:List (Str×D)):Prop:=∃es n,K.lookup a=some ⟨.type "dict",none,.dict es n,#[]⟩/\CRows K P es.toList aG/\(a == sysModules)=false
def const_dict {K:Frag}{P:Params}{y:Str}{a:Addr}{es:Array DictEntry}{n:Nat}{aG:List (Str×D)}(e:nsIn K mainGlobals y=some (some (.ref a)))(l:K.lookup a=some ⟨.type "dict",none,.dict es n,#[]⟩)(r:CRows K P es.toList aG)(s:(a == sysModules)=false):
  ∃a,nsIn K mainGlobals y=some (some (.ref a))/\t0 K P a aG:=⟨a,e,es,n,l,r,s⟩
section
variable {X:Cx}{a b e:Expr}{pos:Pos}{x:Str}{p:Pos}
def t0.map {ae:AO}{σ:St}{H:Hp}{s:Shared}{d:Addr}{aG:List (Str×D)}(I:Inv X ae σ H s)(h:t0 X.K X.w.params d aG):∃f:SV,s.heap.MapOf (strKind X.prog X.w) d f/\(d == sysModules)=false /\
  ∀y,match aG.lookup y with|none=>f y=none|some dd=>∃u v,f y=some u/\aU v u/\∀B,Is X.K B v dd:=by
 obtain⟨es,n,l,r,G⟩:=h;refine⟨_,PySem.W.mapOf_K I.kIn l r.lit,G,λy=>?_⟩;have:=r.find y;have g:findBy Value.isStrOf es y=(es.toList.find? λe=>Value.isStrOf y e.key).map (·.val):=by
  unfold findBy;obtain⟨es⟩:=es;rw[List.find?_toArray]
 cases hl:aG.lookup y with
 |none=>rw[hl]at this;dsimp only at this ⊢;rw[g,this];rfl
 |some dd=>
  rw[hl]at this;obtain⟨en,v,M,e2,O⟩:=this;exact⟨en.val,v,by rw[g,M];rfl,e2,O⟩
@[simp] noncomputable def iF:LD->OB
 |[.lst ds]=>some (.lst ds,true)
 |[.tup ds]=>some (.lst ds,true)
 |_=>none
@[simp] noncomputable def hZ:LD->OB
 |[.lst ds]=>some (.tup ds,false)
 |[.tup ds]=>some (.tup ds,false)
 |_=>none
def Ev:bP X (.type "list") (AE X.K iF):=by
 refine bP.to uI λxs H Q q=>?_;obtain⟨B,ds,d,bb,M,i,g,q⟩:=q;cases i with
 |nil=>simp[iF]at g
 |cons O T=>
  cases T with
  |cons _ _=>cases O<;>simp[iF]at g
  |nil=>
   cases O<;>try (simp[iF]at g;done)
   ·rename_i U vs es h hl;simp only[iF]at g;cases g
    refine⟨_,_,rfl,.inr (bu M h),λl hp=>?_⟩;have G:=Ext.laid (o:=.lst vs) M hp;exact q _ _ _ G (.lst (gP.of aC) (hl.mono G.bn)) λ_=>⟨_,_,_,rfl,rfl,hp,aC,hl.mono G.bn⟩
   ·rename_i U vs es h hl;simp only[iF]at g;cases g
    refine⟨_,_,rfl,.inl (M.seq h),λl hp=>?_⟩;have G:=Ext.laid (o:=.lst vs) M hp;exact q _ _ _ G (.lst (gP.of aC) (hl.mono G.bn)) λ_=>⟨_,_,_,rfl,rfl,hp,aC,hl.mono G.bn⟩
def HB:bP X (.type "tuple") (AE X.K hZ):=by
 refine bP.to si λxs H Q q=>?_;obtain⟨B,ds,d,bb,G,i,g,q⟩:=q;cases i with
 |nil=>simp[hZ]at g
 |cons M T=>
  cases T with
  |cons _ _=>cases M<;>simp[hZ]at g
  |nil=>
   cases M<;>try (simp[hZ]at g;done)
   ·rename_i U vs es h hl;simp only[hZ]at g;cases g
    exact⟨_,_,rfl,.inr ⟨bu G h,q.one G (.tup h hl)⟩⟩
   ·rename_i U vs es h hl;simp only[hZ]at g;cases g
    refine⟨_,_,rfl,.inl ⟨G.seq h,λl hp=>?_⟩⟩;have O:=Ext.laid (o:=.tup vs) G hp;exact q _ _ _ O (.tup (jc.of aC) (hl.mono O.bn)) (by simp)
end
section
variable {X:Cx}{a b e:Expr}{pos:Pos}{x:Str}{p:Pos}
def Ew (K:Frag)(n:Nat)(t:Jh):TG:=λv σ H Q=>∃k a xs,v=.ref a/\zp k K H a xs/\xs.length=n/\t xs σ H Q
def Ls (hc:X.calm=true)(h:Nd X es t)(hn:(assignEach es X.env).length=n:=by rfl)(g:(assignEach es X.env).findIdx? (·.1)=none:=by rfl):PG X (.Tuple es kt pos) (Ew X.K n t):=by
 intro ae s σ H v u Q I r hw;obtain⟨k,l,xs,rfl,hq,hl,hw⟩:=hw;cases r
 cases k with
 |false=>
  obtain⟨its,G,M,hz⟩:=I.tuple hq;refine assign_Tuple_tuple (I.ok.hd hc) M (by simp[hn,←hl,G.length]) g λh' hx=>?_;have O:Inv X ae σ H { s with heap:=h' }:=I.kept (t':=s.toks) λb o e=>hx b o (vS (vX e)) e;exact h ae _ σ H xs _ Q O (by simpa using G) hw
 |true=>
  obtain⟨its,G,M,hz⟩:=I.list hq;rw[assign_Tuple];refine wX (wpAny_standAt ?_);unfold unpack;have hsz:(assignEach es X.env).length=its.toArray.size:=by simp[hn,←hl,G.length]
  rw[hsz,g];refine wX (wpAny_holding (PySem.W.kun_itemsOf (I.ok.hd hc) M.isList λh' hx=>?_));have O:Inv X ae σ H { s with heap:=h' }:=I.kept (t':=s.toks) λb o e=>hx b o (vS (vX e)) e;exact h ae _ σ H xs _ Q O (by simpa using G) hw
@[simp] def xH (is:LN)(f:FE):FS:=λρ=>(f ρ).bind λx=>(hU x.1).bind λds=>(fQ is ds (if b8 ds=true then ρ else unown ρ)).map .nx
def Ex {K:Frag}{is:LN}{f:FE}{E:Ends}{σ:St}{H:Hp}(q:lS K (xH is f) E σ H):uA (tD K f) (Ew K is.length (lD is)) E σ H:=by
 obtain⟨B0,H0,ρ,r,⟨N,s⟩,e,p⟩:=q;obtain⟨x,ex,e⟩:=oX e;obtain⟨ds,es,e⟩:=oX e;obtain⟨ρ',g,e⟩:=oY e;subst e;refine⟨N,ρ,x.1,x.2,s.ext.nh,s.rep,ex,λv O N1 T U _=>?_⟩;obtain⟨k,a,vs,rfl,sq,M⟩:=Jx U es;have s1:=s.grow T;refine⟨k,a,vs,rfl,sq.same T.nh,by rw[M.length];exact kM g,?_⟩;by_cases hn:b8 ds=true
 ·rw[if_pos hn]at g;exact kL s1 (s1.flats M hn) g λG s'=>p G O ⟨N1,s'⟩
 ·rw[if_neg hn]at g;exact kL s1.unown (M.mono λa o e=>by rw[cH np];exact e) g λG s'=>p G O ⟨N1,s'⟩
def HC (he:JE X e f)(g:PG X (.Tuple es kt p2) (Ew X.K is.length (lD is)))(hs:swapsWithSole [.Tuple es kt p2] e pos.line X.env=pure false:=by rfl)(hw:swappedStores [.Tuple es kt p2] e X.env=pure none:=by rfl)
  (h1:(assignEach [.Tuple es kt p2] X.env).map (·.2)=[assign (.Tuple es kt p2) X.env]:=by rfl):JS X (.Assign [.Tuple es kt p2] e pos) (xH is f):=PS.to (DF he g hs hw h1) λ_ _ _ q=>Ex q
@[simp] def CK (i:Nat)(g G:FE):FS:=λρ=>match ρ[i]? with
 |some (some (.lst ds,true))=>(G ρ).bind λv=>(g ρ).bind λk=>match k.1 with
  |.int j=>(C1 ds.length j).bind λn=>if bg v.1=true then some (.nx (ρ.set i (some (.lst (ds.set n v.1),true))))else none
  |_=>none
 |_=>none
def Ey (hv:JE X e fv)(hk:JE X k fk)(hN:X.N[i]? = some y:=by rfl)(G:Ki X.env.scope y:=by first|exact Or.inl rfl|exact Or.inr (Or.inl rfl)|exact Or.inr (Or.inr rfl))(hd:(y == ("__debug__" : Str))=false:=by decide)
  (O:(y == ("__classdict__" : Str))=false:=by decide)
  (ha:∀v,assign (.Subscript (.Name y py) k pt) X.env v=(do
   let M ←holding [v] (eval (.Name y py) X.env)
   let iv ←holding [v,M] (eval k X.env)
   standAt pt
   holding [v,M,iv] (setItem M iv v)
   release [v,M,iv] []):=by intro _;rfl)
  (hs:swapsWithSole [.Subscript (.Name y py) k pt] e pos.line X.env=pure false:=by rfl) (hw:swappedStores [.Subscript (.Name y py) k pt] e X.env=pure none:=by rfl)
  (h1:(assignEach [.Subscript (.Name y py) k pt] X.env).map (·.2)=[assign (.Subscript (.Name y py) k pt) X.env]:=by rfl):JS X (.Assign [.Subscript (.Name y py) k pt] e pos) (CK i fk fv):=by
 refine PS.to (DF hv (Ky (pA hN G hd O) hk DP ha) hs hw h1) λE σ H q=>?_;obtain⟨B0,H0,ρ,r,⟨N,s⟩,g,p⟩:=q;unfold CK at g;split at g
 ·rename_i ds ei;obtain⟨v,ev,g⟩:=oX g;obtain⟨kk,ek,g⟩:=oX g;obtain⟨kd,kb⟩:=kk;cases kd with
  |int j=>
   dsimp only at g;obtain⟨n,en,g⟩:=oX g;split at g
   ·rename_i hn;cases g
    refine⟨N,ρ,v.1,v.2,s.ext.nh,s.rep,ev,λv1 H1 N1 x1 i1 _=>?_⟩;have s1:=s.grow x1;obtain⟨l,vs,T,z,h1,h2,h3,h4⟩:=s1.owL i _ ei;cases z
    refine⟨_,h1,N1,ρ,_,_,s1.ext.nh,s1.rep,ek,λkv H2 N2 x2 i2 _=>?_⟩;cases i2
    have s2:=s1.grow x2;obtain⟨l',U,T,z,k1,k2,k3,k4⟩:=s2.owL i _ ei;cases z
    rw[h1]at k1;cases k1;exact⟨l,U,j,n,rfl,rfl,s2.ext.nh _ _ k2,by rw[k4.length];exact en,p σ _ ⟨_,s2.write ei h1 (IsL.set (s2.flat (i1.mono x2.bn) hn) n k4)⟩⟩
   ·cases g
  |_=>cases g
 ·cases g
@[simp] def Ux (i:Nat)(f:FE):FS:=λρ=>match ρ[i]? with
 |some (some (.lst ds,true))=>(f ρ).bind λx=>match x.1 with
  |.lst es=>if x.2=true/\b8 es=true/\ds.length+es.length<=sizeLine then some (.nx (ρ.set i (some (.lst (ds++es),true))))else none
  |_=>none
 |_=>none
@[simp] noncomputable def zN:LD->OB
 |[.int i]=>some (.int i,false)
 |[.bl b]=>some (.int (if b then 1 else 0),false)
 |_=>none
def NY:bP X (.type "int") (AE X.K zN):=by
 refine bP.to Cy λxs H Q q=>?_;obtain⟨B,ds,d,bb,G,i,g,q⟩:=q;cases i with
 |nil=>simp[zN]at g
 |cons M O=>
  cases O with
  |cons _ _=>cases M<;>simp[zN]at g
  |nil=>
   cases M<;>try (simp[zN]at g;done)
   ·simp only[zN]at g;cases g
    exact .inr ⟨_,rfl,q.one G (.int _)⟩
   ·simp only[zN]at g;cases g
    exact .inl ⟨_,rfl,q.one G (.int _)⟩
end
open AutoSeq1 (wpAny_loadPart')
set_option maxRecDepth 100000
noncomputable def Sw (k:Bool):String:=if k=true then "list" else "tuple"
def xI (k:Bool)(l:Addr)(items:AV)(n:Nat)(G:Option Addr)(sl:Array (Option Value)):
  Meets (Builtin.«enumerate.__new__» ⟨[.type "enumerate",.ref l],[]⟩) (λ_ R s=>s.heap.get? l=some { cls:=.type (Sw k),dict:=G,data:=.seq items n,slots:=sl } /\
   R (.ok (.ret (.ref (s.heap.push (Lq k l)).objs.size))) { s with heap:=(s.heap.push (Lq k l)).push { cls:=.type "enumerate",data:=.fields #[.none,.bool false,.ref s.heap.objs.size,rawInt 0,.none,.none] } }) :=
 .of_wp λprog w A R s hs=>by
  obtain⟨hp,g,d,tk,os⟩:=s;obtain⟨hl,hs⟩:=hs;have O:=sub_enumerate;have M:zo k (Shared.heap ⟨hp,g,d,tk,os⟩) l items:=by cases k<;>exact⟨_,hl,rfl,n,rfl⟩
  wp_walk using wpAny_loadPart' hl;refine wpAny_stack_any λst=>wY ?_;split
  ·rename_i c _ _ _ _ _;cases (c == Value.type "enumerate")
   ·wp_walk using wpAny_loadPart' hl,vw M;exact⟨_,rfl,hs⟩
   ·wp_walk using wpAny_loadPart' hl,vw M;exact⟨_,rfl,hs⟩
  ·wp_walk using wpAny_loadPart' hl,vw M;exact⟨_,rfl,hs⟩
section
variable {prog:Program}{w:World}{A:Around}{E:QV}{s:Shared}
def Ez (M:zo k s.heap l items)
  (q:∀h',IsEnum h' (s.heap.objs.size+1) s.heap.objs.size 0 .none->Bc k h' s.heap.objs.size l 0->(∀b o,s.heap.get? b=some o->h'.get? b=some o)->Q (.ref (s.heap.objs.size+1)) { s with heap:=h' }):
  wpAny (model prog w) A (call (.type "enumerate") [.ref l]) Q E s:=by
 have hh:∃(g:Option Addr)(sl:Array (Option Value))(n:Nat),s.heap.get? l=some { cls:=.type (Sw k),dict:=g,data:=.seq items n,slots:=sl }:=by
  cases k<;>(obtain⟨⟨c,g,dt,sl⟩,hl,hc,n,hd⟩:=M;dsimp only at hc hd;subst hc;subst hd;exact⟨g,sl,n,hl⟩)
 obtain⟨g,sl,n,hl⟩:=hh;refine callType_new PySem.F.called_enumerate (by decide) (PySem.F.typeCall_enumerate_1 _) (PySem.F.newCall_enumerate_1 _) (λobj=>PySem.F.args_object_init_2 obj _) PySem.F.entry_enumerate_new (xI k l items n g sl) ⟨hl,?_⟩;have n1:(s.heap.push (Lq k l)).objs.size=s.heap.objs.size+1:=Heap.size_push ..;have G:((s.heap.push (Lq k l)).push { cls:=.type "enumerate",data:=.fields #[.none,.bool false,.ref s.heap.objs.size,rawInt 0,.none,.none] }).get? (s.heap.push (Lq k l)).objs.size=some _:=vY _ rfl;have g1:((s.heap.push (Lq k l)).push { cls:=.type "enumerate",data:=.fields #[.none,.bool false,.ref s.heap.objs.size,rawInt 0,.none,.none] }).get? s.heap.objs.size=some _:=vZ _ (vY _ (by cases k<;>rfl))
 rw[n1]at G;show _/\_;rw[n1];refine⟨⟨_,G,rfl⟩,q _ G ?_ λb o e=>vZ _ (vZ _ e)⟩;cases k<;>exact⟨_,g1,rfl,rfl⟩
def Lu (T:A.handled=none)(it l:Addr)(g:l≠it)(items:AV):Draws prog w A it [it,l] items.size (λi v=>items[i]? = some v) (λi h=>Bc k h it l i/\zo k h l items) where
 live:=λi h st=>let ⟨o,e,_⟩:=st.1.ob;⟨o,e⟩
 frame:=λi h h' st M=>⟨st.1.upon λo e=>M it (by simp) o e,st.2.upon λo e=>M l (by simp) o e⟩
 item:=λi s Q E hi st q=>CJ st.1 st.2 (v:=items[i]) (by simp[hi]) λh' G O=>q _ h' s.toks (by simp[hi]) ⟨G,st.2.upon λo e=>O.extBut _ _ g e⟩ O
 done:=λs Q E st q=>xG T st.1 st.2 (by simp) q
def Lv (G:A.handled=none)(it l:Addr)(items:AV)(n:Nat)(hn:items[n]? = none):Draws prog w A it [it,l] n (λ_ _=>True) (λi h=>(Bc k h it l i/\zo k h l items)/\i=n) where
 live:=λi h st=>let ⟨o,e,_⟩:=st.1.1.ob;⟨o,e⟩
 frame:=λi h h' st g=>⟨⟨st.1.1.upon λo e=>g it (by simp) o e,st.1.2.upon λo e=>g l (by simp) o e⟩,st.2⟩
 item:=λi s Q E hi st q=>absurd st.2 (vS hi)
 done:=λs Q E st q=>xG G st.1.1 st.1.2 hn q
end
noncomputable def Q5 (K:Frag)(k:Bool)(a:Addr):It :=
  ⟨λi H=>∃xs x,zp k K H a xs/\xs[i]? = some x,
   λi H v H'=>∃T x,v=.ref T/\H T=none/\H'=upd H T (.tup [.int i,x])/\∀xs,zp k K H a xs->xs[i]? = some x,
   λi H=>∃xs,zp k K H a xs/\xs.length<=i⟩
def CL {P:Program}{w:World}{K:Frag}{es:QD}{kt:Nat}{pt:Pos}{k:Bool}{a e it:Addr}(M:e≠it)(V3:a≠e)(V4:a≠it):
  Turn P w K (.Tuple es kt pt) (Q5 K k a) [e,it] e (λi h=>(∃g,IsEnum h e it i g)/\Bc k h it a i) where
 mem:=by simp
 obj:=λi h st b hb=>by
  obtain⟨⟨g,he⟩,G⟩:=st;simp at hb;rcases hb with rfl|rfl
  ·exact⟨_,he,λv z=>by cases z⟩
  ·exact G.ob
 keep:=λi h h' st kk=>by
  obtain⟨⟨g,he⟩,G⟩:=st;exact⟨⟨g,kk e (by simp) _ he⟩,G.upon λo q=>kk it (by simp) o q⟩
 item:=by
  intro X hP hw hK hc i ae s σ H E I hf st hg;subst hP hw hK;obtain⟨⟨g,he⟩,G⟩:=st;obtain⟨xs,x,q1,hx⟩:=hg;obtain⟨its,r1,p1,z1⟩:=q1.vals I;obtain⟨u,hu,ru⟩:=r1.get hx;have fresh:H s.heap.objs.size=none:=I.hok.fresh (vT _);have V5:i<its.toArray.size:=by rw[vH];exact(vV hu).1
  have T:e≠s.heap.objs.size:=vS (vX he);have V6:it≠s.heap.objs.size:=by obtain⟨o,q,_⟩:=G.ob;exact vS (vX q)
  refine wpAny_pyNext_enum_itemD (Lu (A:=X.A.in1) (I.ok.hd hc) it a V4 its.toArray) he ⟨G,p1⟩ V5 M (by simp[M,V3.symm]) λv h' tk hv ho Rh hT hsz hk=>?_;have ev:v=u:=by
   have U:its[i]? = some v:=by simpa using hv
   rw[hu]at U;exact(vK U).symm
  subst ev;refine⟨_,rfl,wpAny_letOwnedTupleGo_enum (s:={ s with heap:=h',toks:=tk+1 }) ho λh2 MJ s2=>?_⟩;have O:Heap.SameBut e h' h2:=s2;have kk:∀b o,b∉[e,it]->s.heap.get? b=some o->h2.get? b=some o:=λb o hb q=>O.extBut _ _ (λz=>hb (by simp[z])) (hk b o (λz=>hb (by simp[z])) (λz=>hb (by simp[z])) q);have new:bO X.prog X.w (upd H s.heap.objs.size (.tup [.int i,x])) h2 s.heap.objs.size (.tup [.int i,x]):=⟨by show 2<=sizeLine;decide,[.int i tk,v],.cons ⟨tk,rfl⟩ (.cons ru .nil),⟨_,O.extBut _ _ T.symm hT,rfl,_,rfl⟩⟩;refine⟨.ref s.heap.objs.size,upd H s.heap.objs.size (.tup [.int i,x]),Jw (s:=s) (t':=tk+1) I hf kk (vT _) new,rfl,⟨_,x,rfl,fresh,rfl,λzs hq=>by rw[zp.inj I hq q1];exact hx⟩,?_,λb hb=>?_⟩
  ·exact⟨⟨_,by have:=MJ;rw[show((i:Int)+1)=((i+1:Nat):Int) by omega]at this;exact this⟩,Rh.1.upon λo q=>O.extBut _ _ M.symm q⟩
  ·have Gw:b≠s.heap.objs.size:=by
    simp at hb;rcases hb with rfl|rfl
    ·exact T
    ·exact V6
   rw[aJ Gw];exact(hf b hb).1
 done:=by
  intro X hP hw hK hc i ae s σ H E I hf st hg;subst hP hw hK;obtain⟨⟨g,he⟩,G⟩:=st;obtain⟨xs,q1,hl⟩:=hg;obtain⟨its,r1,p1,z1⟩:=q1.vals I;have n1:=r1.length;refine wpAny_pyNext_enum_endD (Lv (A:=X.A.in1) (I.ok.hd hc) it a its.toArray i (by simp;omega)) he ⟨⟨G,p1⟩,rfl⟩ λh' hk=>⟨rfl,?_⟩;exact oZ (t':=s.toks) I hf λb o hb q=>hk b o (λz=>hb (by simp[z])) q
 self:=λ_ _ _ _ _ st h=>let ⟨⟨_,he⟩,_⟩:=st;wpAny_pyIter_enum he h
section
variable {X:Cx}{a b e:Expr}{pos:Pos}{p:Pos}
def xJ:bootBuiltins "enumerate" = some (.type "enumerate"):=by decide +kernel
noncomputable def t6 (ds:LD):LD:=ds.mapIdx λi d=>.tup [.int i,d]
@[simp] def E1 (fa:FE):FA:=λρ=>(fa ρ).bind λx=>(hU x.1).map t6
def HD {K:Frag}{N:Hp}{k:Bool}{l:Addr}{vs:LV}{ds:LD}(h1:zp k K N l vs)(G:IsL K N vs ds):nq K (Q5 K k l) N (t6 ds):=by
 intro i H' g;have n1:=G.length;refine⟨λd ed=>?_,λhl=>⟨vs,h1.same g,?_⟩⟩
 ·unfold t6 at ed;rw[List.getElem?_mapIdx]at ed;obtain⟨x,e1,rfl⟩:=oY ed;obtain⟨v,M,iv⟩:=G.get e1;refine⟨⟨vs,v,h1.same g,M⟩,λr H2 hy=>?_⟩;obtain⟨T,v',rfl,hT,rfl,f1⟩:=hy;have O:=f1 vs (h1.same g);rw[M]at O;cases O;have U:=Ext.laid (o:=.tup [.int i,v]) g hT;exact⟨_,U,.tup (jc.of aC) (.cons (.int _) (.cons (iv.mono U.bn) .nil))⟩
 ·unfold t6 at hl;rw[List.length_mapIdx]at hl;omega
def HE {es:QD}{kt:Nat}{pt:Pos}{fa:FE}(hm:X.mg "enumerate" = none)(ha:JE X a fa)(hg:Gl X "enumerate":=by rfl)(hs:starEach [a] X.env=[(false,eval a X.env)]:=by rfl):
  JI X (.Tuple es kt pt) (.Call (.Name "enumerate" p) [a] [] pos) (E1 fa):=by
 intro ae s σ H R I q;refine Call_ (l7 I hg hm xJ (PyProof.Rows.callWith_type1 (c8 (ai ha am hs pos ae s σ H (λvs g=>∃(k:Bool)(l:Addr)(us:LV),vs=[.ref l]/\zp k X.K g l us/\R (Q5 X.K k l) g) I ?_) λus s1 ⟨vs,g,O,r1,q1⟩=>?_) hs rfl))
 ·obtain⟨B,ρ,ds,sB,r,G,q⟩:=q;obtain⟨x1,ex,G⟩:=oX G;obtain⟨xs,T,G⟩:=oY G;subst G;refine⟨B,ρ,[x1.1],sB,r,by simp[ag,aj,ex],λvs g N1 xt i1=>?_⟩;cases i1 with
  |cons j1 j2=>
   cases j2
   obtain⟨k1,l1,us,rfl,s1,m1⟩:=Jx j1 T;exact⟨k1,l1,us,rfl,s1.same xt.nh,q _ g N1 xt (HD s1 m1)⟩
 ·obtain⟨k,l,ws,rfl,h1,q⟩:=q1;obtain⟨u1,rfl,U⟩:=r1.one;cases U
  obtain⟨its,v1,p1,z1⟩:=h1.vals O;have P5:=p1.lt;refine Ez p1 λh' c1 c2 ck=>?_;refine wpAny_pyIter_enum c1 ⟨s1.heap.objs.size+1,[s1.heap.objs.size+1,s1.heap.objs.size],_,_,g,rfl,O.kept (t':=s1.toks) ck,
   CL (Nat.succ_ne_self _) (vS (lt_succ_of_lt P5)) (vS P5),⟨⟨_,c1⟩,c2⟩,λb hb=>?_,q⟩
  have M:s1.heap.objs.size<=b:=by
   simp at hb;rcases hb with rfl|rfl
   ·exact le_succ _
   ·exact vT _
  exact O.fpOk M (O.hok.fresh M)
end
end DL
namespace DL
open PySem PySem.Spec PyProof.Rows
def jA (xs:Array Nat):Prop:=xs.toList.Pairwise (· < ·)
def jA.lt {xs:Array Nat}(h:jA xs){i j a b:Nat}(hi:xs[i]? = some a)(hj:xs[j]? = some b)(l:i<j):a<b:=by
 obtain⟨h1,g⟩:=Array.getElem?_eq_some_iff.mp hi;obtain⟨h2,e2⟩:=Array.getElem?_eq_some_iff.mp hj;have:=List.pairwise_iff_getElem.mp h i j (by simpa using h1) (by simpa using h2) l;simp only[getElem_toList]at this;rw[←g,←e2];exact this
theorem pR {xs:Array Nat}(h:jA xs)(j:Nat):∀(fuel lo hi:Nat),hi<=xs.size->lo<=hi->hi - lo<=fuel->(∀i a,i<lo->xs[i]? = some a->a<j)->(∀i a,hi<=i->xs[i]? = some a->j<=a) ->
  (SetTable.below.go xs j fuel lo hi<=xs.size/\(∀i a,i<SetTable.below.go xs j fuel lo hi->xs[i]? = some a->a<j)/\∀i a,SetTable.below.go xs j fuel lo hi<=i->xs[i]? = some a->j<=a)
 |0,lo,hi,h1,h2,h3,h4,h5=>by
  have:lo=hi:=by omega
  subst this;exact⟨h1,h4,h5⟩
 |fuel+1,lo,hi,h1,h2,h3,h4,h5=>by
  unfold SetTable.below.go;by_cases hl:lo<hi
  ·rw[if_pos hl];have hm:(lo+hi) / 2<xs.size:=by omega
   have g:xs[(lo+hi) / 2]? = some (xs.getD ((lo+hi) / 2) j):=by rw[getD_eq_getD_getElem?,getElem?_eq_getElem hm];rfl
   show(if xs.getD ((lo+hi) / 2) j<j then _ else _)<=_/\_;by_cases hc:xs.getD ((lo+hi) / 2) j<j
   ·rw[if_pos hc];refine pR h j fuel _ _ h1 (by omega) (by omega) (λi a G ha=>?_) h5;by_cases hx:i=(lo+hi) / 2
    ·rw[hx,g]at ha;cases ha;exact hc
    ·exact Nat.lt_trans (h.lt ha g (by omega)) hc
   ·rw[if_neg hc];refine pR h j fuel _ _ (by omega) (by omega) (by omega) h4 λi a G ha=>?_;by_cases hx:i=(lo+hi) / 2
    ·rw[hx,g]at ha;cases ha;omega
    ·have:=h.lt g ha (by omega);omega
  ·rw[if_neg hl];have:lo=hi:=by omega
   subst this;exact⟨h1,h4,h5⟩
def pT {xs:Array Nat}(h:jA xs)(j:Nat):SetTable.below xs j<=xs.size/\(∀i a,i<SetTable.below xs j->xs[i]? = some a->a<j)/\∀i a,SetTable.below xs j<=i->xs[i]? = some a->j<=a :=
 pR h j xs.size 0 xs.size (vT _) (uN _) (by omega) (λ_ _ h=>absurd h (Nat.not_lt_zero _)) λi a h1 h2=>by
  have:=(Array.getElem?_eq_some_iff.mp h2).1;omega
def zO {xs:Array Nat}(h:jA xs){i a:Nat}(e:xs[i]? = some a):SetTable.below xs (a+1)=i+1:=by
 obtain⟨h1,h2,h3⟩:=pT h (a+1);have hi:=(Array.getElem?_eq_some_iff.mp e).1;by_cases c:SetTable.below xs (a+1)<i+1
 ·have:=h3 i a (by omega) e;omega
 ·by_cases g:i+1<SetTable.below xs (a+1)
  ·obtain⟨b,hb⟩:∃b,xs[i+1]? = some b:=⟨_,getElem?_eq_getElem (by omega)⟩;have:=h2 (i+1) b g hb;have:=h.lt e hb (by omega);omega
  ·omega
def zP {xs:Array Nat}(h:jA xs):SetTable.below xs 0=0:=by
 obtain⟨h1,h2,_⟩:=pT h 0;by_cases c:0<SetTable.below xs 0
 ·obtain⟨b,hb⟩:∃b,xs[0]? = some b:=⟨_,getElem?_eq_getElem (by omega)⟩;exact absurd (h2 0 b c hb) (Nat.not_lt_zero _)
 ·omega
def E2 {xs:Array Nat}(h:jA xs){j:Nat}(hj:xs[SetTable.below xs j]? ≠ some j):jA (SetTable.insertAt xs (SetTable.below xs j) j):=by
 obtain⟨h1,h2,h3⟩:=pT h j;have e:(SetTable.insertAt xs (SetTable.below xs j) j).toList=xs.toList.take (SetTable.below xs j)++j::xs.toList.drop (SetTable.below xs j):=by
  unfold SetTable.insertAt;simp[Array.toList_extract,List.extract];exact take_of_length_le (by simp)
 unfold jA;rw[e,List.pairwise_append,pairwise_cons];have lo:∀a∈xs.toList.take (SetTable.below xs j),a<j:=λa ha=>by
  obtain⟨i,hi⟩:=mem_iff_getElem?.mp ha;rw[List.getElem?_take]at hi;split at hi
  ·rename_i hl;exact h2 i a hl (by simpa using hi)
  ·cases hi
 have g:∀a∈xs.toList.drop (SetTable.below xs j),j<a:=λa ha=>by
  obtain⟨i,hi⟩:=mem_iff_getElem?.mp ha;rw[getElem?_drop,getElem?_toList]at hi;have h4:=h3 _ a (by omega) hi;rcases Nat.lt_or_eq_of_le h4 with h5|h5
  ·exact h5
  ·subst h5;by_cases h0:i=0
   ·subst h0;exact absurd hi hj
   ·obtain⟨b,hb⟩:∃b,xs[SetTable.below xs j]? = some b:=⟨_,getElem?_eq_getElem (by have:=(Array.getElem?_eq_some_iff.mp hi).1;omega)⟩;have:=h3 _ b (vT _) hb;have:=h.lt hb hi (by omega);omega
 refine⟨List.Pairwise.sublist (take_sublist _ _) h,⟨g,List.Pairwise.sublist (List.drop_sublist _ _) h⟩,λa ha b hb=>?_⟩;rcases vP hb with rfl|hb
 ·exact lo a ha
 ·exact Nat.lt_trans (lo a ha) (g b hb)
theorem lE {t:SetTable}{f:Nat->Int}{h:Int}:∀(fuel:Nat)(p:SetTable.Probe)(j:Nat)(d:Option Nat),(∀d,p.dummy=some d->t.place[SetTable.below t.place d]? ≠ some d)->SetTable.probe.go t f h fuel p=some (.empty j d)->t.place[SetTable.below t.place j]? ≠ some j/\∀e,d=some e->t.place[SetTable.below t.place e]? ≠ some e
 |0,_,_,_,_,h=>by simp[SetTable.probe.go]at h
 |fuel+1,p,j,d,hd,g=>by
  unfold SetTable.probe.go at g;cases hs:t.slot p.j with
  |empty=>
   rw[hs]at g;cases g
   refine⟨λz=>?_,hd⟩;unfold SetTable.slot at hs;simp[z]at hs
  |dummy=>
   rw[hs]at g;refine lE fuel _ j d (λe he=>?_) g;have:e=p.j:=by
    unfold SetTable.advance at he;split at he<;>exact(vK he).symm
   subst this;intro z;unfold SetTable.slot at hs;simp[z]at hs
  |live i=>
   rw[hs]at g;dsimp only at g;split at g
   ·cases g
   ·refine lE fuel _ j d (λe he=>hd e ?_) g;unfold SetTable.advance at he;split at he<;>exact he
def E3 {t:SetTable}{h:Int}{j:Nat}{w:Bool}(e:t.freeSlot h=some (j,w)):t.place[SetTable.below t.place j]? ≠ some j:=by
 unfold SetTable.freeSlot at e;split at e
 ·rename_i g d hp;obtain⟨h1,h2⟩:=lE _ _ _ _ (λd hd=>by cases hd) hp;cases e
  cases d with
  |none=>exact h1
  |some d=>exact h2 d rfl
 ·cases e
def jB (n:Nat):jA (Array.range n):=by unfold jA;rw[Array.toList_range];exact List.pairwise_lt_range
def CM {O g M:Nat}{led pl:Bool}{G:Array Int}{t:SetTable}{o:Array Nat}(e:SetTable.laid O g M led pl G=some (t,o)):jA t.place:=by
 unfold SetTable.laid at e;obtain⟨ow,_,e⟩:=oX e;cases e
 unfold jA;show(List.map _ _).Pairwise _;refine pairwise_map.mpr ?_;refine List.Pairwise.filterMap _ (λa b h x hx y hy=>?_) List.pairwise_lt_range;obtain⟨_,_,rfl⟩:=oY hx;obtain⟨_,_,rfl⟩:=oY hy;exact h
def CN (t:SetTable)(es:Array (Int×Value))(n:Nat):(relayAll t es n).2.1.led=t.led:=by
 unfold relayAll;split
 ·rename_i t' g h;unfold SetTable.relaid SetTable.laid at h;obtain⟨ow,_,h⟩:=oX h;cases h
  dsimp only;split<;>rfl
 ·rfl
def zQ (t:SetTable)(es:Array (Int×Value))(n:Nat)(h:jA t.place):jA (relayAll t es n).2.1.place:=by
 unfold relayAll;split
 ·rename_i t' g e;dsimp only;split
  ·exact CM e
  ·exact jB _
 ·exact jB _
def E4 (t:SetTable)(es:Array (Int×Value))(hh:Int)(x:Value)(h:jA t.place):jA (layNew t es hh x).2.1.place:=by
 unfold layNew;split
 ·rename_i slot g e;dsimp only[SetTable.put,SetTable.orStandIn];repeat' (first|exact E2 h (E3 e)|exact jB _|split)
 ·exact jB _
def HF (t:SetTable)(es:Array (Int×Value))(h:Int)(x:Value):(layNew t es h x).2.1.led=t.led:=by
 unfold layNew;split
 ·dsimp only[SetTable.put,SetTable.orStandIn];repeat' (first|rfl|split)
 ·rfl
structure TabT (w:World)(es:Array (Int×Value))(t:SetTable):Prop where
 fits:t.fits es.size=true
 led:t.led = !w.params.followText "set-order"
 rise:jA t.place
structure zE {prog:Program}{w:World}{κ:Type}[DecidableEq κ](kd:PySem.KeyKind prog w κ)(kf:Value->κ)(mk:κ->Tok->Value):Prop where
 is:∀k t,kd.is k (mk k t)=true
 of:∀ {k v},kd.is k v=true->∃t,v=mk k t
 kf:∀k t,kf (mk k t)=k
 sc:∀k t,(mk k t).scannable=true
def iR {prog:Program}{w:World}{κ:Type}[DecidableEq κ](kd:PySem.KeyKind prog w κ)(kf:Value->κ)(h:Heap)(a:Addr)(g:List κ):Prop :=
 ∃o es G t,h.get? a=some o/\o.ExactSet/\o.data=.set es G t/\ElemsOf kd es.toList/\(es.toList.map (λe=>kf e.2)).Perm g/\g.Nodup/\g.length<scanBound/\TabT w es t
noncomputable def gR {κ:Type}[DecidableEq κ](g:List κ)(x:κ):List κ:=if x∈g then g else g++[x]
def E5 {κ:Type}[DecidableEq κ](g:List κ)(x:κ):(gR g x).length<=g.length+1:=by unfold gR;split<;>simp
section
variable {prog:Program}{w:World}{A:Around}{E:QV}{s:Shared}{κ:Type}[DecidableEq κ] {kd:PySem.KeyKind prog w κ}{kf:Value->κ}{mk:κ->Tok->Value}
def zE.key (g:zE kd kf mk)(h:kd.is k v=true):kf v=k:=by obtain⟨t,rfl⟩:=g.of h;exact g.kf _ _
def t7 (G:zE kd kf mk){es:Array (Int×Value)}{M:List κ}(g:ElemsOf kd es.toList)(hp:(es.toList.map (λe=>kf e.2)).Perm M)(k:κ):k∈M ↔ ∃e∈es.toList,kd.is k e.2=true:=by
 rw[←hp.mem_iff,mem_map];constructor
 ·rintro⟨e,he,rfl⟩;obtain⟨⟨k',hk,_⟩,_⟩:=g e he;exact⟨e,he,by rw[G.key hk];exact hk⟩
 ·rintro⟨e,he,hk⟩;exact⟨e,he,G.key hk⟩
def t8 {h:Heap}{a:Addr}{o:Obj}{es:Array (Int×Value)}{G:Nat}{t:SetTable}(M:h.get? a=some o)(hd:o.data=.set es G t)(g:Array (Int×Value))(t':SetTable):
  (h.update a (Obj.putSet g t')).get? a=some { o with data:=.set g (G+1) t' }:=by
 have:=Heap.get?_update_self (Obj.putSet g t') M (by rw[putSet_of g t' hd];rfl);rw[putSet_of g t' hd]at this;exact this
def pU {g:Bool->Sem Unit}(hg:∀(b:Bool)(U:Shared)(Q':Unit->Shared->Prop),Q' () U->wpAny (model prog w) A (g b) Q' E U)
  {a:Addr}{o:Obj}{es:Array (Int×Value)}{ep:Nat}{t:SetTable}(ho:s.heap.get? a=some o) (Gx:o.ExactSet) (hd:o.data=.set es ep t)
  {G:Array (Int×Value)}{M:SetTable}{ts:List κ}(D6:ElemsOf kd G.toList) (Mq:(G.toList.map (λe=>kf e.2)).Perm ts) (nd:ts.Nodup)
  (hb1:ts.length<scanBound) (V7:M.fits G.size=true) (Mr:M.led = !w.params.followText "set-order") (D7:jA M.place) {O:Bool}{R:Option Bool->Shared->Prop}
  (h:∀h',Heap.SameBut a s.heap h'->iR kd kf h' a ts->R (some true) { s with heap:=h' }):
  wpAny (model prog w) A (do
    storeSet a G M
    if(!O && M.tooFull)=true then do
      g (relayAll M G (SetTable.grown G.size)).2.2
      storeSet a (relayAll M G (SetTable.grown G.size)).1 (relayAll M G (SetTable.grown G.size)).2.1
      pure (some true)
     else pure (some true)) R E s:=by
 have Tl:G.size=ts.length:=by rw[←Mq.length_eq,vI,vG]
 refine wX (wpAny_storeSet_of ho hd ?_ (fits_of_scanBound (by rw[Tl];exact hb1)));have Je:=t8 ho hd G M;have OO:=vW s.heap a (Obj.putSet G M);split
 ·have hp:=relayAll_perm M G (SetTable.grown G.size);have Ri:=relayAll_fits M G (SetTable.grown G.size);have Ms:=CN M G (SetTable.grown G.size);have Rj:=zQ M G (SetTable.grown G.size) D7;generalize hRl:relayAll M G (SetTable.grown G.size)=Rl at hp Ri Ms Rj ⊢;obtain⟨T,t3,Tn⟩:=Rl;dsimp only at hp Ri Ms Rj ⊢;have Rk:ElemsOf kd T.toList:=D6.perm hp;have hsz:T.size=G.size:=by rw[←vG,hp.length_eq,vG]
  refine wX (hg _ _ _ ?_);refine wX (wpAny_storeSet_of Je rfl ?_ (fits_of_scanBound (by rw[hsz,Tl];exact hb1)));have V8:=t8 Je rfl T t3;exact wY (h _ (OO.trans (vW _ a _)) ⟨_,T,_,t3,V8,Gx,rfl,Rk,(hp.map _).trans Mq,nd,hb1,Ri,Ms.trans Mr,Rj⟩)
 ·exact wY (h _ OO ⟨_,G,_,M,Je,Gx,rfl,D6,Mq,nd,hb1,V7,Mr,D7⟩)
def zR (K0:zE kd kf mk){a:Addr}{ts:List κ}{k:κ}{tk:Tok}{Q:Bool->Shared->Prop}(hS:iR kd kf s.heap a ts)(OP:ts.length+1<scanBound)
  (h:∀b h',Heap.SameBut a s.heap h'->iR kd kf h' a (gR ts k)->Q b { s with heap:=h' }):
  wpAny (model prog w) A (setAddHashed a (mk k tk) (kd.hash k)) Q E s:=by
 have hS0:=hS;obtain⟨o,es,ep,t,ho,Gx,hd,JX,g,nd,hb,hf,Gf,D7⟩:=hS;have OQ:kd.is k (mk k tk)=true:=K0.is k tk;have sz:es.size=ts.length:=by rw[←g.length_eq,vI,vG]
 unfold setAddHashed setAddHashedIn;refine wpAny_holding (wX (wpAny_setState_of ho hd hf ?_));dsimp only;rw[byScan_of (x:=mk k tk) (K0.sc k tk) (by rw[sz];exact hb) JX];simp only[↓reduceIte];unfold setAddByScan;refine wX ?_;refine wX (wpAny_rule ?_);refine wX (wpAny_setScan_of OQ ho hd hf JX ?_);cases hr:List.findIdx? (λe=>kd.is k e.2) es.toList with
 |some j=>
  dsimp only;obtain⟨hj,V9,_⟩:=List.findIdx?_eq_some_iff_getElem.mp hr;have hm:k∈ts:=(t7 K0 JX g k).mpr ⟨es.toList[j],getElem_mem hj,V9⟩;refine wY (wY ?_);have e:gR ts k=ts:=by unfold gR;rw[if_pos hm]
  exact h false s.heap (Heap.SameBut.refl a s.heap) (by rw[e];exact hS0)
 |none=>
  dsimp only;have hm:k∉ts:=λz=>by
   obtain⟨e,he,hp⟩:=(t7 K0 JX g k).mp z;have:=List.findIdx?_eq_none_iff.mp hr e he;rw[hp]at this;exact Bool.noConfusion this
  have ea:gR ts k=ts++[k]:=by unfold gR;rw[if_neg hm]
  have VA:∀(b:Bool){G:Shared}{Q':Unit->Shared->Prop},Q' () G->wpAny (model prog w) A (match b with|true=>rule "set.scan.the-table-gave-way" | false=>pure ()) Q' E G :=
   λb G Q' hq=>by cases b<;>first|exact wY hq|exact wpAny_rule hq
  have M:=layNew_perm t es (kd.hash k) (mk k tk);have O:=layNew_fits t es (kd.hash k) (mk k tk);have OS:=E4 t es (kd.hash k) (mk k tk) D7;have Jf:=HF t es (kd.hash k) (mk k tk);generalize hL:layNew t es (kd.hash k) (mk k tk)=L at M O Jf OS ⊢;obtain⟨To,t1,OT,OR⟩:=L;dsimp only at M O Jf OS ⊢;rw[toList_push]at M;have D6:ElemsOf kd To.toList:=(JX.push OQ (K0.sc k tk)).perm M;have Mq:(To.toList.map (λe=>kf e.2)).Perm (ts++[k]):=(M.map _).trans (by rw[uW,List.map_singleton,K0.kf];exact g.append_right _);have Rm:(ts++[k]).Nodup:=by
   rw[nodup_append];refine⟨nd,by simp,λx hx y hy=>?_⟩;rw[mem_singleton]at hy;subst hy;exact λz=>hm (z ▸ hx)
  have hb1:(ts++[k]).length<scanBound:=by rw[uZ];exact OP
  refine wX (VA _ ?_);have Mt:∀h',Heap.SameBut a s.heap h'->iR kd kf h' a (ts++[k])->Q true { s with heap:=h' }:=λh' T U=>h true h' T (by rw[ea];exact U);have gw:∀(b:Bool)(G:Shared)(Q':Unit->Shared->Prop),Q' () G->wpAny (model prog w) A (match b with|true=>rule "set.scan.the-table-gave-way" | false=>pure ()) Q' E G:=λb G Q' hq=>by cases b<;>first|exact wY hq|exact wpAny_rule hq
  split
  ·refine wX ?_;rw[hashByValue_scannable 8 (x:=mk k tk) (K0.sc k tk)];refine wY ?_;cases plainKind (mk k tk) with
   |false=>exact pU gw ho Gx hd D6 Mq Rm hb1 (SetTable.fits_plain_off O) (Jf.trans Gf) OS λh' T U=>wY (Mt h' T U)
   |true=>exact pU gw ho Gx hd D6 Mq Rm hb1 O (Jf.trans Gf) OS λh' T U=>wY (Mt h' T U)
  ·refine wX (wY ?_);exact pU gw ho Gx hd D6 Mq Rm hb1 O (Jf.trans Gf) OS λh' T U=>wY (Mt h' T U)
end
section
variable {κ:Type}[DecidableEq κ] {ts:List κ}{x y:κ}
noncomputable def fy (g:List κ):List κ:=g.foldl gR []
def zS (h:ts.Nodup)(x:κ):(gR ts x).Nodup:=by
 unfold gR;split
 ·exact h
 ·rename_i hm;rw[nodup_append];refine⟨h,by simp,λy hy z hz=>?_⟩;rw[mem_singleton]at hz;subst hz;exact λe=>hm (e ▸ hy)
def xK:y∈gR ts x↔y∈ts∨y=x:=by
 unfold gR;split
 ·rename_i hm;exact⟨.inl,λz=>z.elim id λe=>e ▸ hm⟩
 ·simp
def ml (g:List κ):∀ts:List κ,(g.foldl gR ts).length<=ts.length+g.length:=by
 induction g with
 |nil=>intro ts;simp
 |cons x r G=>intro ts;rw[foldl_cons];have:=G (gR ts x);have:=E5 ts x;simp only[vE];omega
def jZ (g:List κ):(fy g).length<=g.length:=by have:=ml g [];simpa [fy]using this
def CO (g:List κ)(x:κ):fy (g++[x])=gR (fy g) x:=by unfold fy;rw[foldl_append];rfl
end
theorem StrsAre.at:∀ {vs:LU}{g:LS},StrsAre vs g->∀(i:Nat)(v:Value),vs[i]? = some v->∃x t,v=.str x t/\g[i]? = some x
 |_,_,.nil,i,v,h=>by simp at h
 |_,_,.cons x t G,0,v,h=>by simp at h;exact⟨x,t,h.symm,rfl⟩
 |_,_,.cons x t G,i+1,v,h=>by
  simp only[getElem?_cons_succ]at h;exact StrsAre.at G i v h
def iR.at {prog:Program}{w:World}{κ:Type}[DecidableEq κ]{kd:PySem.KeyKind prog w κ}{kf:Value->κ}{g:List κ}(x:iR kd kf h a g)(k:∀o,h.get? a=some o->h'.get? a=some o):iR kd kf h' a g:=by
 obtain⟨o,es,G,t,M,r⟩:=x;exact⟨o,es,G,t,k o M,r⟩
section
variable {prog:Program}{w:World}{A:Around}{R:Result->Shared->Prop}{I:Addr}{fp wr:List Addr}{G:Array GenState->Array GenState->Prop}{n:Nat}{P:Nat->Value->Prop}{St:Nat->Shared->Prop}{κ:Type}[DecidableEq κ] {kd:PySem.KeyKind prog w κ}{kf:Value->κ}{mk:κ->Tok->Value}
def vx (K0:zE kd kf mk)(W:WalksS prog w A.in1 I fp wr G n P St)(S:Addr)(T:S∉fp)(g:List κ)(hn:g.length=n)
  (U:∀i v,P i v->∃x t,v=mk x t/\g[i]? = some x) (hb:n+1<scanBound):
  ∀(k i:Nat)(s:Shared),n - i=k->i<=n->St i s->iR kd kf s.heap S (fy (g.take i)) ->
   (∀s',Moved (S::wr) G s s'->iR kd kf s'.heap S (fy g)->R (.ok (.ret .none)) s') ->
   codeAny (model prog w) A (.builtin "set.update.loop" ⟨[.ref S,.ref I],[]⟩) R s:=by
 have Tp:S∉wr:=λh=>T (W.sub _ h);have M:∀b∈wr,b∈S::wr:=λb hb=>mZ _ hb;intro k;induction k with
 |zero=>
  intro i s hk hi O hS hR;have Mu:i=n:=by omega
  subst Mu;refine codeAny_builtin PyProof.Rows.F.entry_set_update_loop ?_;rw[Around.under_plainId PyProof.Rows.F.plain_set_update_loop _];show wpAny _ A.in1 (pyNext (.ref I)>>=_) _ _ s;refine wX (W.done s _ _ O λs' hm=>?_);show wpAny _ A.in1 (ret Value.none) _ _ s';refine wY (hR s' (hm.mono M) ?_);rw[take_of_length_le (by omega)]at hS;exact hS.at λo e=>hm.heap S _ Tp e
 |succ k ih=>
  intro i s hk hi O hS hR;have Cn:i<n:=by omega
  refine codeAny_builtin PyProof.Rows.F.entry_set_update_loop ?_;rw[Around.under_plainId PyProof.Rows.F.plain_set_update_loop _];show wpAny _ A.in1 (pyNext (.ref I)>>=_) _ _ s;refine wX (W.item i s _ _ Cn O λv s' hP hst' hm=>?_);obtain⟨x,t,rfl,hx⟩:=U i v hP;have VB:iR kd kf s'.heap S (fy (g.take i)):=hS.at λo e=>hm.heap S _ Tp e;show wpAny _ A.in1 (holding [mk x t] (setAdd S (mk x t))>>=_) _ _ s';refine wX (wpAny_holding ?_);unfold setAdd;refine wpAny_holding ?_;refine wX (kd.pyHash (k:=x) (K0.is x t) ?_);have hl:(fy (g.take i)).length+1<scanBound:=by have:=jZ (g.take i);rw[length_take]at this;omega
  refine zR K0 (s:={ s' with toks:=s'.toks+1 }) VB hl λb h' hsb OU=>?_;have VC:iR kd kf h' S (fy (g.take (i+1))):=by
   rw[take_add_one,hx,toList_some,CO];exact OU
  refine wY ⟨plainId_quiet PyProof.Rows.F.plain_set_update_loop _,ih (i+1) _ (by omega) Cn (W.frame _ s' _ _ hst' (le_succ _) λb hb o e=>?_) VC λOV hm'' hS''=>?_⟩
  ·rw[hsb.2 b (λh:b=S=>T (by rw[←h];exact hb))];exact e
  ·refine hR OV (Moved.trans W.gtrans ((hm.mono M).then_heap (le_succ _) λb o hb e=>?_) hm'') hS'';rw[hsb.2 b (λh:b=S=>hb (by rw[h];exact mX))];exact e
end
section
variable {prog:Program}{w:World}{A:Around}{E:QV}{s:Shared}{κ:Type}[DecidableEq κ] {kd:PySem.KeyKind prog w κ}{kf:Value->κ}{mk:κ->Tok->Value}
noncomputable abbrev eX (w:World):Obj:={ cls:=.type "set",dict:=none,data:=.set #[] 0 (.fresh 0 0 (!w.params.followText "set-order")) }
def xL (a:Value) 
  (h:Q₁ (.ref s.heap.objs.size) { s with heap:=s.heap.push (eX w) }):
  codeAny (model prog w) A (.call (.builtin "set.__new__") ⟨[.type "set",a],[]⟩) (wants Q₁ E) s:=by
 refine codeAny_of_tree ?_;show wpAny _ A.in1 (do checkBuiltinCall "set.__new__" ⟨[.type "set",a],[]⟩;again (.builtin "set.__new__" ⟨[.type "set",a],[]⟩)) _ _ s;refine wX (wpAny_of_eq (PySem.F.newCall_set_1 a) (wY ⟨plainId_quiet plain_set_new _,codeAny_builtin PySem.F.entry_set_new ?_⟩));rw[Around.under_plainId plain_set_new _];unfold Builtin.«set.__new__» Builtin.Frozenset.newClass;have G:=sub_set_self;obtain⟨hp,g,d,tk,os⟩:=s;dsimp only;wp_walk;refine wpAny_askSetting (wY ?_);dsimp only;simp only[newObj];refine wX (wpAny_alloc (wY ?_));exact wY h
set_option maxHeartbeats 3200000 in
def sv (K0:zE kd kf mk){ss:List κ}
  (hh:A.handled=none) (hl:s.heap.IsList l items) (Rn:∀(i:Nat)(v:Value),items[i]? = some v->∃x t,v=mk x t/\ss[i]? = some x) (jP:ss.length=items.size) (hb:items.size+1<scanBound)
  (h:∀(h':Heap)(tk:Nat),iR kd kf h' s.heap.objs.size (fy ss) ->
   (∀b o,b<s.heap.objs.size->s.heap.get? b=some o->h'.get? b=some o)->Q (.ref s.heap.objs.size) { s with heap:=h',toks:=tk }):
  wpAny (model prog w) A (call (.type "set") [.ref l]) Q E s:=by
 obtain⟨c,tl,VD⟩:=called_set.mro;have Tq:=called_set.made;have VE:=called_set.sub;refine wpAny_call (codeAny_of_tree ?_);show wpAny _ _ (callAny (.type "set") _) _ _ _;refine wY ⟨Code.quiet_builtin _ (by decide +kernel),codeAny_builtin PySem.F.entry_type_call ?_⟩;rw[Around.under_plain (weight_type_call_type "set" [.ref l] []) rfl];have h1:=called_set.notType;have h2:=called_set.canCreate;have Xs:=PySem.F.typeCall_set_1 (.ref l);repeat (any_goals (first|assumption|wp_step))
 refine codeAny_mono (xL (.ref l) (E:=E) (Q₁:=λobj M=>obj=.ref s.heap.objs.size/\M={ s with heap:=s.heap.push (eX w) }) ⟨rfl,rfl⟩) λr M hr=>?_;cases r with
 |error e=>exact hr
 |ok fl=>
  cases fl with
  |ret obj=>
   obtain⟨rfl,rfl⟩:=hr;have hS:(s.heap.push (eX w)).get? s.heap.objs.size=some (eX w):=vY _ rfl;have hT:Shared.TypeIs { s with heap:=s.heap.push (eX w) } (.ref s.heap.objs.size) "set":=⟨_,hS,rfl⟩;have Xt:=called_set.init.lookup;have Xu:=called_set.init.bind (.ref s.heap.objs.size);repeat (any_goals (first|assumption|wp_step))
   refine codeAny_mono (codeAny_call_builtin (R:=wants (λr O=>r=.none/\∃h' tk,O={ s with heap:=h',toks:=tk } /\
     iR kd kf h' s.heap.objs.size (fy ss) /\
     (∀b o,b<s.heap.objs.size->s.heap.get? b=some o->h'.get? b=some o)) E) called_set.init.plain PySem.F.entry_set_init (check_set_init_1 hT ?_)) λr₂ O g=>?_
   ·obtain⟨ol,OW,Gy,nl,JY⟩:=hl;obtain⟨VF,T,Tr,G⟩:=ol;simp only at Gy JY;subst Gy;subst JY;have Rp:(s.heap.push (eX w)).get? l=some { cls:=.type "list",dict:=T,data:=.seq items nl,slots:=G }:=vZ _ OW;have VG:=PySem.F.sub_list_set;have VH:=PySem.F.sub_list_frozenset;have Gw:(Value.type "list" == Value.type "dict")=false:=by decide
    have Jf:(s.heap.push (eX w)).IsList l items:=⟨_,Rp,rfl,nl,rfl⟩;unfold Builtin.«set.__init__» noKeywords Builtin.Frozenset.updateFrom;generalize hPI:pyIter=PI;wp_walk;subst hPI;refine wpAny_pyIter_list Jf ?_;refine wX (wpAny_runValue ?_);have Ts:l<s.heap.objs.size:=vX OW;have VI:A.in1.in1.in1.handled=none:=by simp[hh]
    have Rq:l≠(s.heap.push (eX w)).objs.size:=by
     rw[Heap.size_push];exact vS (lt_succ_of_lt Ts)
    have PL:s.heap.objs.size∉[(s.heap.push (eX w)).objs.size,l]:=by
     rw[Heap.size_push];simp only[mem_cons,mem_singleton,not_mem_nil,or_false,not_or];exact⟨vS (lt_succ_self _),ne_of_gt Ts⟩
    refine vx K0 ((Walks.list VI _ l Rq items).toS) s.heap.objs.size
     PL ss jP Rn hb (items.size - 0) 0 _ (by omega) (uN _)
     ⟨⟨_,vY _ rfl,rfl,rfl⟩,(Jf.push _)⟩ ?hS0 ?hR
    case hS0=>
     have Rr:((s.heap.push (eX w)).push { cls:=.type "list_iterator",data:=.fields #[.ref l,.int 0 0] }).get? s.heap.objs.size
       = some (eX w):=vZ _ hS
     exact⟨_,#[],0,_,Rr,⟨rfl,rfl,rfl⟩,rfl,λe he=>by simp at he,List.Perm.refl _,nodup_nil,(by show(0:Nat)<scanBound;decide),rfl,rfl,List.Pairwise.nil⟩
    case hR=>
     intro s' hm U
     obtain⟨h',g',d',Mv,VJ⟩:=s'
     have eg:g'=s.gens:=hm.gens
     have ed:d'=s.drawn:=hm.drawn
     have eo:VJ=s.os:=hm.os
     subst eg;subst ed;subst eo
     show wpAny _ _ _ _ _ _
     refine wY ?_
     show wpAny _ _ (ret Value.none) _ _ _
     refine wY ⟨rfl,h',Mv,rfl,U,λb o hb e=>?_⟩
     have hb1:b≠s.heap.objs.size:=vS hb
     have VL:b≠(s.heap.push (eX w)).objs.size:=by
      rw[Heap.size_push];exact vS (lt_succ_of_lt hb)
     exact hm.heap b o (by simp only[mem_cons,mem_singleton,not_mem_nil,or_false,not_or];exact⟨hb1,VL⟩) (vZ _ (vZ _ e))
   ·cases r₂ with
    |error e=>exact g
    |ok fl₂=>
     cases fl₂ with
     |ret r=>
      obtain⟨rfl,h',tk,rfl,U,JZ⟩:=g;repeat (any_goals (first|assumption|wp_step))
      exact h _ _ U JZ
     |_=>exact g.elim
  |_=>exact hr.elim
end
open Sem (wp)
section
variable {M:Model}{A:Around}{E:QV}{s:Shared}
def HG (hn:n≠0)(h:∀k d,k<n->Q k { s with drawn:=d }):wpAny M A (choose src n) Q E s:=by
 intro g p G;unfold choose;rw[Sem.wp_choose];refine⟨hn,?_⟩;have:=h _ (s.drawn.bump src) (Nat.mod_lt (M.w.draws src (s.drawn.get src)) (Nat.pos_of_ne_zero hn));simpa using this
end
def mm {α:Type}:∀(l:List α)(i:Nat),i<l.length->(l.eraseIdx i).length=l.length - 1:=λl i h=>by rw[List.length_eraseIdx,if_pos h]
theorem lF {α:Type}:∀(l:List α)(i:Nat)(x:α),l[i]? = some x->(x::l.eraseIdx i).Perm l
 |[],i,x,h=>by simp at h
 |a::l,0,x,h=>by simp at h;subst h;exact List.Perm.refl _
 |a::l,i+1,x,h=>by
  rw[List.eraseIdx_cons_succ];simp only[getElem?_cons_succ]at h;exact(List.Perm.swap a x _).trans ((lF l i x h).cons a)
theorem Bd {α:Type}:∀(n:Nat)(xs:List α)(s:Shared)(Q:List α->Shared->Prop),xs.length=n->(∀ys d,ys.Perm xs->Q ys { s with drawn:=d })->wpAny M A (drawOrder n xs) Q E s
 |0,xs,s,Q,hl,h=>by
  have:xs=[]:=List.eq_nil_of_length_eq_zero hl;subst this;exact wY (h [] s.drawn (List.Perm.refl _))
 |n+1,[],s,Q,hl,h=>by simp at hl
 |n+1,x::r,s,Q,hl,h=>by
  show wpAny M A (choose .order (x::r).length>>=λi=>match (x::r)[i]? with
   |some g=>(do return g::(←drawOrder n ((x::r).eraseIdx i)))
   |none=>unsupported "internal:drawOrder") Q E s
  refine wX (HG (by simp) λk d hk=>?_);obtain⟨y,hy⟩:∃y,(x::r)[k]? = some y:=⟨_,vU hk⟩;rw[hy];refine wX (Bd n _ _ _ (by rw[mm _ _ hk,hl];rfl) λys d' hp=>wY (h _ _ ((hp.cons y).trans (lF _ _ _ hy))))
theorem Be {α:Type}(next:Nat->Nat):∀(fuel k:Nat)(left:List α)(out:Array α),left.length=fuel->(pickOrder.go next fuel k left out).toList.Perm (out.toList++left)
 |0,k,left,out,hl=>by
  have:left=[]:=List.eq_nil_of_length_eq_zero hl;subst this;unfold pickOrder.go;simp
 |fuel+1,k,left,out,hl=>by
  unfold pickOrder.go;have hk:next k % left.length<left.length:=Nat.mod_lt _ (by omega);obtain⟨y,hy⟩:∃y,left[next k % left.length]? = some y:=⟨_,vU hk⟩;rw[hy];dsimp only;refine(Be next fuel (k+1) _ _ (by rw[mm _ _ hk];omega)).trans ?_;rw[toList_push,append_assoc];exact(lF _ _ _ hy).append_left _
def CP {α:Type}(next:Nat->Nat)(xs:Array α):(pickOrder next xs).toList.Perm xs.toList:=by
 have:=Be next xs.size 0 xs.toList #[] (by simp);simpa [pickOrder]using this
def bF:Slot "set_iterator" "__next__" "set_iterator.__next__" :=
 .of (owner:="set_iterator") (n:="__next__") (by rw[typeLookup_type,builtinLookup_eq_fast];kernel_rfl) (by decide +kernel) (by decide +kernel) (by decide +kernel)
  (by first|exact .inl (by decide +kernel)|exact .inr (by decide +kernel)) (by rw[isSubtype_type];kernel_rfl)
def fJ:entryFor table "set_iterator.__next__" = some Builtin.«set_iterator.__next__»:=entryFor_of_tree (by kernel_rfl)
def gh (a:Value):argsOk "set_iterator.__next__" ⟨[a],[]⟩:=by unfold argsOk;kernel_rfl
def lm:Slot "set_iterator" "__iter__" "set_iterator.__iter__" :=
 .of (owner:="set_iterator") (n:="__iter__") (by rw[typeLookup_type,builtinLookup_eq_fast];kernel_rfl) (by decide +kernel) (by decide +kernel) (by decide +kernel)
  (by first|exact .inl (by decide +kernel)|exact .inr (by decide +kernel)) (by rw[isSubtype_type];kernel_rfl)
def pV:entryFor table "set_iterator.__iter__" = some Builtin.«dict_keyiterator.__iter__» :=
 entryFor_alias (id':="dict_keyiterator.__iter__") (by kernel_rfl) rfl (by decide +kernel) (by kernel_rfl)
def sw (a:Value):argsOk "set_iterator.__iter__" ⟨[a],[]⟩:=by unfold argsOk;kernel_rfl
def oN:entryFor table "set.__iter__" = some Builtin.«frozenset.__iter__» :=
 entryFor_alias (id':="frozenset.__iter__") (by kernel_rfl) rfl (by decide +kernel) (by kernel_rfl)
noncomputable abbrev lG (g:Value)(i:Nat)(S:Addr)(n G:Nat):Obj:={ cls:=.type "set_iterator",data:=.fields #[g,.int i 0,.ref S,.int n 0,.int G 0] }
section
variable {prog:Program}{w:World}{A:Around}{E:QV}{s:Shared}{it S:Addr}{i ep:Nat}{o:Obj}{es:Array (Int×Value)}{t:SetTable}
def dI (g:s.heap.get? it=some (lG fst i S n ep)):s.TypeIs (.ref it) "set_iterator":=⟨_,g,rfl⟩
def vy {k k':Nat}{x:Value}{Q:Option Value->Shared->Prop}(g:s.heap.get? it=some (lG (.int k 0) i S es.size ep))
  (M:s.heap.get? S=some o) (hd:o.data=.set es ep t) (hf:t.fits es.size=true)
  (O:∀(T:Around)(U:QV)(G:Option (Value×Nat)->Shared->Prop),G (some (x,k')) s->wpAny (model prog w) T (setNext S k i ep) G U s)
  (hQ:∀h',h'.get? it=some (lG (.int k' 0) (i+1) S es.size ep)->Heap.SameBut it s.heap h'->Q (some x) { s with heap:=h' }):
  wpAny (model prog w) A (pyNext (.ref it)) Q E s:=by
 unfold pyNext;refine wX (wpAny_attempt (wpAny_callSpecial?_slot (name:=Str.ofString "__next__") (dI g) bF
  (wpAny_call_entry bF (dI g) fJ ?_ (gh _))))
 show wpAny _ _ (fieldsOf (.ref it)>>=_) _ _ s;refine wX (wpAny_fieldsOf g rfl ?_);show wpAny _ _ (setEntries S>>=_) _ _ s;refine wX (wpAny_setEntries_of M hd hf ?_);rw[if_neg (by simp)];show wpAny _ _ (setNext S _ _ _>>=_) _ _ s;simp only[toNat_natCast];refine wX (O _ _ _ ?_);dsimp only;refine wX (wpAny_setField_rec g (by simp) λh1 e1 b1=>?_);refine wX (wpAny_setField_rec e1 (by simp) λh2 e2 b2=>?_);exact wY ⟨x,rfl,wY (hQ h2 (by simpa [rawInt,lG]using e2) (b1.trans b2))⟩
def vz {k:Nat}{Q:Option Value->Shared->Prop}(hh:A.handled=none)(g:s.heap.get? it=some (lG (.int k 0) i S es.size ep))
  (M:s.heap.get? S=some o) (hd:o.data=.set es ep t) (hf:t.fits es.size=true)
  (O:∀(U:Around)(E':QV)(G:Option (Value×Nat)->Shared->Prop),G none s->wpAny (model prog w) U (setNext S k i ep) G E' s)
  (hQ:∀h',Heap.ExtBut it s.heap h'->Q none { s with heap:=h' }):
  wpAny (model prog w) A (pyNext (.ref it)) Q E s:=by
 unfold pyNext;refine wX (wpAny_attempt (wpAny_callSpecial?_slot (name:=Str.ofString "__next__") (dI g) bF
  (wpAny_call_entry bF (dI g) fJ ?_ (gh _))))
 show wpAny _ _ (fieldsOf (.ref it)>>=_) _ _ s;refine wX (wpAny_fieldsOf g rfl ?_);show wpAny _ _ (setEntries S>>=_) _ _ s;refine wX (wpAny_setEntries_of M hd hf ?_);rw[if_neg (by simp)];show wpAny _ _ (setNext S _ _ _>>=_) _ _ s;simp only[toNat_natCast];refine wX (O _ _ _ ?_);dsimp only;refine wX (wpAny_setField_rec g (by simp) λh1 e1 b1=>?_);refine wX ?_;simp only[newExc,newTuple];refine wX (wpAny_newObj_type ?_ (by size_fits));refine wX (m:=firstArgMember _ _) (wpAny_of_eq (a:=Value.none) (by first|rfl|(simp only[firstArgMember];rfl)) ?_);refine wpAny_newObj_type ?_ (by size_fits);simp only[raiseNew];refine wX (wpAny_handled ?_);rw[show A.in1.handled=none from hh];refine wX (wY (wpAny_throw ?_));refine wX (wpAny_isInstance (T:="StopIteration") (b:=true) ⟨_,vY _ rfl,rfl⟩ isSubtype_stop ?_);exact wY (hQ _ ((b1.extBut.push _).push _))
def sx {T:Addr}{pl:LN}{p:Nat}{x:Int×Value}{nt:Nat}{Q:Option Value->Shared->Prop}(g:s.heap.get? it=some (lG (.ref T) i S es.size ep))
  (O:s.heap.get? T=some (seqObj "tuple" (pl.map λ(p:Nat)=>Value.int p 0).toArray nt))
  (M:s.heap.get? S=some o) (hd:o.data=.set es ep t) (hf:t.fits es.size=true) (hp:pl[i]? = some p) (hx:es[p]? = some x)
  (U:∀h',h'.get? it=some (lG (.ref T) (i+1) S es.size ep)->Heap.SameBut it s.heap h'->Q (some x.2) { s with heap:=h' }):
  wpAny (model prog w) A (pyNext (.ref it)) Q E s:=by
 unfold pyNext;refine wX (wpAny_attempt (wpAny_callSpecial?_slot (name:=Str.ofString "__next__") (dI g) bF
  (wpAny_call_entry bF (dI g) fJ ?_ (gh _))))
 show wpAny _ _ (fieldsOf (.ref it)>>=_) _ _ s;refine wX (wpAny_fieldsOf g rfl ?_);show wpAny _ _ (setEntries S>>=_) _ _ s;refine wX (wpAny_setEntries_of M hd hf ?_);rw[if_neg (by simp)];show wpAny _ _ (seqItems? (.ref T)>>=_) _ _ s;refine wX (wpAny_seqItems O rfl ?_);have G:(pl.map λ(p:Nat)=>Value.int p 0).toArray[(i:Int).toNat]? = some (.int p 0):=by simp[hp]
 dsimp only;rw[G];dsimp only;have e2:wpAny (model prog w) A.in1 (setNextDrawn S (p:Int).toNat (ep:Int).toNat) (λy s'=>y=x.2/\s'=s) (λ_ _=>False) s:=by
  unfold setNextDrawn;refine wX (wpAny_setState_of M hd hf ?_);dsimp only;rw[if_neg (by simp)];simp only[toNat_natCast,hx];exact wY ⟨rfl,rfl⟩
 refine wX (wpAny_mono e2 (λy s' hy=>?_) λ_ _ z=>z.elim);obtain⟨rfl,rfl⟩:=hy;refine wX (wpAny_setField_rec g (by simp) λh1 G b1=>?_);exact wY ⟨_,rfl,wY (U h1 (by simpa [rawInt,lG]using G) b1)⟩
def sy {T:Addr}{pl:LN}{nt:Nat}{Q:Option Value->Shared->Prop}(hh:A.handled=none)(g:s.heap.get? it=some (lG (.ref T) i S es.size ep))
  (M:s.heap.get? T=some (seqObj "tuple" (pl.map λ(p:Nat)=>Value.int p 0).toArray nt))
  (O:s.heap.get? S=some o) (hd:o.data=.set es ep t) (hf:t.fits es.size=true) (hp:pl[i]? = none)
  (U:∀h',Heap.ExtBut it s.heap h'->Q none { s with heap:=h' }):
  wpAny (model prog w) A (pyNext (.ref it)) Q E s:=by
 unfold pyNext;refine wX (wpAny_attempt (wpAny_callSpecial?_slot (name:=Str.ofString "__next__") (dI g) bF
  (wpAny_call_entry bF (dI g) fJ ?_ (gh _))))
 show wpAny _ _ (fieldsOf (.ref it)>>=_) _ _ s;refine wX (wpAny_fieldsOf g rfl ?_);show wpAny _ _ (setEntries S>>=_) _ _ s;refine wX (wpAny_setEntries_of O hd hf ?_);rw[if_neg (by simp)];show wpAny _ _ (seqItems? (.ref T)>>=_) _ _ s;refine wX (wpAny_seqItems M rfl ?_);have G:(pl.map λ(p:Nat)=>Value.int p 0).toArray[(i:Int).toNat]? = none:=by simpa using hp
 dsimp only;rw[G];dsimp only;refine wX (wpAny_setField_rec g (by simp) λh0 e0 b0=>?_);refine wX (wpAny_setField_rec e0 (by simp) λh1 G b1=>?_);refine wX ?_;simp only[newExc,newTuple];refine wX (wpAny_newObj_type ?_ (by size_fits));refine wX (m:=firstArgMember _ _) (wpAny_of_eq (a:=Value.none) (by first|rfl|(simp only[firstArgMember];rfl)) ?_);refine wpAny_newObj_type ?_ (by size_fits);simp only[raiseNew];refine wX (wpAny_handled ?_);rw[show A.in1.handled=none from hh];refine wX (wY (wpAny_throw ?_));refine wX (wpAny_isInstance (T:="StopIteration") (b:=true) ⟨_,vY _ rfl,rfl⟩ isSubtype_stop ?_);exact wY (U _ (((b0.trans b1).extBut.push _).push _))
def xM (g:s.heap.get? it=some (lG fst i S n ep))(h:Q (.ref it) s):wpAny (model prog w) A (pyIter (.ref it)) Q E s:=by
 refine wpAny_pyIter_slot (dI g) lm (wpAny_call_entry lm (dI g) pV ?_ (sw _));show wpAny _ _ (ret (.ref it)) _ _ s;exact wY ⟨_,rfl,"set_iterator",_,dI g,bF.lookup,h⟩
end
section
variable {prog:Program}{w:World}{A:Around}{E:QV}{s:Shared}{it S:Addr}{i k ep:Nat}{o:Obj}{es:Array (Int×Value)}{t:SetTable}
def t9 (g:s.heap.get? S=some o)(hd:o.data=.set es ep t)(hf:t.fits es.size=true)(hb:w.params.followText "set-order" = true)
  (h:Q (((pickOrder (w.params.setOrder S ep) es)[i]?).map λe=>(e.2,k)) s):wpAny (model prog w) A (setNext S k i ep) Q E s:=by
 unfold setNext;refine wX (wpAny_setState_of g hd hf ?_);dsimp only;unfold setsByText;refine wX (wX (wpAny_askSetting (wY ?_)));show wpAny _ _ (if w.params.followText "set-order" = true then _ else _) _ _ _;rw[if_pos hb,if_neg (by simp)];unfold setWalk setsByText;refine wX (wX (wpAny_setState_of g hd hf ?_));dsimp only;refine wX (wX (wpAny_askSetting (wY ?_)));show wpAny _ _ (if w.params.followText "set-order" = true then _ else _) _ _ _;rw[if_pos hb];refine wX (wpAny_askSetting (wY ?_));exact wY h
def pW (g:s.heap.get? S=some o)(hd:o.data=.set es ep t)(hf:t.fits es.size=true)(hb:w.params.followText "set-order" = false)(hl:t.led=true)(hz:(!t.plain && decide (es.size > 1))=false)
  (h:Q (match es[SetTable.below t.place k]?,t.place[SetTable.below t.place k]? with
   |some (_,x),some j=>some (x,j+1)
   |_,_=>none) s):wpAny (model prog w) A (setNext S k i ep) Q E s:=by
 unfold setNext;refine wX (wpAny_setState_of g hd hf ?_);dsimp only;unfold setsByText;refine wX (wX (wpAny_askSetting (wY ?_)));show wpAny _ _ (if w.params.followText "set-order" = true then _ else _) _ _ _;rw[if_neg (by rw[hb];simp)];show wpAny _ _ (if(!t.plain && decide (es.size > 1))=true then _ else _) _ _ _;rw[if_neg (by rw[hz];simp)];show wpAny _ _ ((if(!t.led && !es.isEmpty)=true then unsupported "set:maker-not-led" else pure ())>>=_) _ _ _;rw[hl,if_neg (by simp)];refine wX (wY ?_);exact wY h
def tE (hh:A.handled=none)(hd:o.data=.set es ep t)(hf:t.fits es.size=true)(T:S≠it)(vs:LU)(hv:vs.length=es.size)(sl:Nat->Nat)
  (U:∀i x,vs[i]? = some x->∀(G:Around)(M:QV)(s:Shared)(g:Option (Value×Nat)->Shared->Prop),s.heap.get? S=some o->g (some (x,sl (i+1))) s->wpAny (model prog w) G (setNext S (sl i) i ep) g M s)
  (hE:∀(G:Around)(M:QV)(s:Shared)(g:Option (Value×Nat)->Shared->Prop),s.heap.get? S=some o->g none s->wpAny (model prog w) G (setNext S (sl es.size) es.size ep) g M s):
  Walks prog w A it [it,S] [it] es.size (λi v=>vs[i]? = some v) (λi h=>h.get? it=some (lG (.int (sl i) 0) i S es.size ep)/\h.get? S=some o) where
 sub:=λb hb=>by simp at hb;simp[hb]
 frame:=λ_ _ _ st hk=>⟨hk it (by simp) _ st.1,hk S (by simp) _ st.2⟩
 item:=λi s Q E hi st O=>by
  obtain⟨x,hx⟩:∃x,vs[i]? = some x:=⟨_,vU (by omega)⟩;refine vy st.1 st.2 hd hf (λG M g q=>U i x hx G M s g st.2 q) λh' h1 h2=>?_;exact O x h' s.toks hx ⟨h1,h2.extBut S _ T st.2⟩ λb u hb e=>h2.extBut b u (λz=>hb (by simp[z])) e
 done:=λs Q E st O=>vz hh st.1 st.2 hd hf (λG M g q=>hE G M s g st.2 q) λh' h1=>O h' s.toks λb u hb e=>h1 b u (λz=>hb (by simp[z])) e
 self:=λ_ _ _ _ st O=>xM st.1 O
def zT {T:Addr}{pl:LN}{nt:Nat}(hh:A.handled=none)(hd:o.data=.set es ep t)(hf:t.fits es.size=true)(M:S≠it)(O:T≠it)(hp:pl.Perm (List.range es.size)):
  Walks prog w A it [it,S,T] [it] es.size (λi v=>(pl.map λp=>(es.getD p (0,.none)).2)[i]? = some v)
   (λi h=>h.get? it=some (lG (.ref T) i S es.size ep)/\h.get? S=some o/\h.get? T=some (seqObj "tuple" (pl.map λ(p:Nat)=>Value.int p 0).toArray nt)) where
 sub:=λb hb=>by simp at hb;simp[hb]
 frame:=λ_ _ _ st hk=>⟨hk it (by simp) _ st.1,hk S (by simp) _ st.2.1,hk T (by simp) _ st.2.2⟩
 item:=λi s Q E hi st g=>by
  have G:pl.length=es.size:=by rw[hp.length_eq,length_range]
  obtain⟨p,hx⟩:∃p,pl[i]? = some p:=⟨_,vU (by omega)⟩;have U:p<es.size:=mem_range.mp (hp.mem_iff.mp (vL hx));have he:es[p]? = some (es.getD p (0,.none)):=by rw[getD_eq_getD_getElem?,getElem?_eq_getElem U];rfl
  refine sx st.1 st.2.2 st.2.1 hd hf hx he λh' h1 h2=>?_;exact g _ h' s.toks (by simp[hx]) ⟨h1,h2.extBut S _ M st.2.1,h2.extBut T _ O st.2.2⟩ λb u hb e=>h2.extBut b u (λz=>hb (by simp[z])) e
 done:=λs Q E st g=>by
  have G:pl.length=es.size:=by rw[hp.length_eq,length_range]
  exact sy hh st.1 st.2.2 st.2.1 hd hf (getElem?_eq_none (by omega)) λh' h1=>g h' s.toks λb u hb e=>h1 b u (λz=>hb (by simp[z])) e
 self:=λ_ _ _ _ st g=>xM st.1 g
end
def zU {α:Type}(es:Array α)(d:α):(List.range es.size).map (λp=>es.getD p d)=es.toList:=by
 apply ext_getElem?;intro i;by_cases h:i<es.size
 ·simp[h,getD_eq_getD_getElem?]
 ·simp[h]
section
variable {prog:Program}{w:World}{A:Around}{E:QV}{s:Shared}
def E6 {κ:Type}[DecidableEq κ]{kd:PySem.KeyKind prog w κ}{kf:Value->κ}{mk:κ->Tok->Value}(K0:zE kd kf mk){S:Addr}{ts:List κ}{Q:QV}(hS:iR kd kf s.heap S ts)
  (hQ:∀(h':Heap)(d:Drawn)(it:Addr)(vs:LU)(fp:List Addr)(St:Nat->Heap->Prop),(∀A',A'.handled=none->Walks prog w A' it fp [it] ts.length (λi v=>vs[i]? = some v) St)->St 0 h' ->
   (∀b u,s.heap.get? b=some u->h'.get? b=some u)->s.heap.objs.size<=it->(∀b∈fp,b=S∨s.heap.objs.size<=b)->vs.length=ts.length->(vs.map kf).Perm ts->(∀v∈vs,∃x t,v=mk x t) ->
   Q (.ref it) { s with heap:=h',drawn:=d }):wpAny (model prog w) A (pyIter (.ref S)) Q E s:=by
 obtain⟨o,es,ep,t,U,Gx,hd,JX,hp,nd,hb,hf,Gf,D7⟩:=hS;have sz:es.size=ts.length:=by rw[←hp.length_eq,vI,vG]
 have O:S<s.heap.objs.size:=vX U;have Tt:s.TypeIs (.ref S) "set":=⟨_,U,Gx.1⟩;have G:∀e∈es.toList,∃x t,e.2=mk x t:=λe he=>by
  obtain⟨⟨k,hk,_⟩,_⟩:=JX e he;obtain⟨t,q⟩:=K0.of hk;exact⟨k,t,q⟩
 refine wpAny_pyIter_slot Tt slot_set_iter (wpAny_call_entry slot_set_iter Tt oN ?_ (PySem.F.args_set_iter_1 _));show wpAny _ _ (Builtin.Frozenset.sizeOf S>>=_) _ _ s;unfold Builtin.Frozenset.sizeOf;refine wX (wX (wpAny_setEntries_of U hd hf (wY ?_)));unfold setDrawn setsByText;refine wX (wX (wpAny_setState_of U hd hf ?_));dsimp only;refine wX (wX (wpAny_askSetting (wY (wY ?_))));show wpAny _ _ (if(!w.params.followText "set-order" && (!t.plain && decide (es.size > 1)))=true then _ else _) _ _ _;have T:(es.toList.map (·.2)).map kf=es.toList.map (λe=>kf e.2):=by rw[uP];rfl
 by_cases g:w.params.followText "set-order" = true
 ·rw[if_neg (by rw[g];simp)];refine wX (wY ?_);refine wX (wpAny_setEpoch_of U hd hf ?_);have pp:=CP (w.params.setOrder S ep) es;have jP:((pickOrder (w.params.setOrder S ep) es).toList.map (·.2)).length=es.size:=by rw[vI,pp.length_eq,vG]
  refine wX (wpAny_newObj_type (wY ⟨_,rfl,"set_iterator",_,⟨_,vY _ rfl,rfl⟩,bF.lookup,?_⟩));refine hQ _ s.drawn s.heap.objs.size ((pickOrder (w.params.setOrder S ep) es).toList.map (·.2)) [s.heap.objs.size,S] (λi h=>h.get? s.heap.objs.size=some (lG (.int ((λ_=>0:Nat->Nat) i:Nat) 0) i S es.size ep)/\h.get? S=some o) (λA' hA=>?_) ?_ (λb u e=>vZ _ e) (vT _) (λb hb=>?_) (jP.trans sz) ?_ ?_
  ·rw[←sz];exact tE hA hd hf (vS O) _ jP (λ_=>0) (λi x hx A' E' s Q' h1 h2=>t9 h1 hd hf g (by
    rw[vA,getElem?_toList]at hx;obtain⟨e,he,rfl⟩:=oY hx;rw[he];exact h2)) (λA' E' s Q' h1 h2=>t9 h1 hd hf g (by
    rw[Array.getElem?_eq_none (by rw[←vG,pp.length_eq,vG];exact vT _)];exact h2))
  ·exact⟨vY _ rfl,vZ _ U⟩
  ·simp only[mem_cons,not_mem_nil,or_false]at hb;rcases hb with rfl|rfl
   ·exact .inr (vT _)
   ·exact .inl rfl
  ·refine List.Perm.trans ?_ hp;rw[←T];exact(pp.map _).map _
  ·intro v hv;obtain⟨e,he,rfl⟩:=vO hv;exact G e (pp.mem_iff.mp he)
 ·rw[not_eq_true]at g;have hl:t.led=true:=by rw[Gf,g];rfl
  by_cases h1:(!t.plain && decide (es.size > 1))=false
  ·rw[if_neg (by rw[h1];simp)];refine wX (wY ?_);refine wX (wpAny_setEpoch_of U hd hf ?_);refine wX (wpAny_newObj_type (wY ⟨_,rfl,"set_iterator",_,⟨_,vY _ rfl,rfl⟩,bF.lookup,?_⟩));have Tu:∀i,i<=es.size->SetTable.below t.place (if i=0 then 0 else t.place.getD (i - 1) 0+1)=i:=λi hi=>by
    by_cases h0:i=0
    ·rw[if_pos h0,zP D7,h0]
    ·rw[if_neg h0,zO D7 (i:=i - 1) (by rw[getD_eq_getD_getElem?,getElem?_eq_getElem (by have:t.place.size=es.size:=by { simp only[SetTable.fits,vC,beq_iff_eq,decide_eq_true_eq]at hf;exact hf.1 };omega)];rfl)];omega
   have Xv:t.place.size=es.size:=by
    simp only[SetTable.fits,vC,beq_iff_eq,decide_eq_true_eq]at hf;exact hf.1
   refine hQ _ s.drawn s.heap.objs.size (es.toList.map (·.2)) [s.heap.objs.size,S] (λi h=>h.get? s.heap.objs.size=some (lG (.int ((λi=>if i=0 then 0 else t.place.getD (i - 1) 0+1:Nat->Nat) i:Nat) 0) i S es.size ep)/\h.get? S=some o) (λA' hA=>?_) ?_ (λb u e=>vZ _ e) (vT _) (λb hb=>?_) (by rw[vI,vG,sz]) (by rw[T];exact hp) ?_
   ·rw[←sz];refine tE hA hd hf (vS O) _ (by simp) (λi=>if i=0 then 0 else t.place.getD (i - 1) 0+1) (λi x hx A' E' s Q' q1 q2=>pW q1 hd hf g hl h1 ?_) (λA' E' s Q' q1 q2=>pW q1 hd hf g hl h1 ?_)
    ·rw[Tu i (by have:=(vV hx).1;simp at this;omega)];rw[vA,getElem?_toList]at hx;obtain⟨e,he,rfl⟩:=oY hx;have hi:=(Array.getElem?_eq_some_iff.mp he).1;rw[he,show t.place[i]? = some (t.place.getD i 0) by rw[getD_eq_getD_getElem?,getElem?_eq_getElem (by omega)];rfl];exact q2
    ·rw[Tu es.size (vT _),Array.getElem?_eq_none (vT _)];exact q2
   ·exact⟨vY _ rfl,vZ _ U⟩
   ·simp only[mem_cons,not_mem_nil,or_false]at hb;rcases hb with rfl|rfl
    ·exact .inr (vT _)
    ·exact .inl rfl
   ·intro v hv;obtain⟨e,he,rfl⟩:=vO hv;exact G e he
  ·rw[if_pos (by rw[g];simpa using h1)];refine wX (Bd es.size (List.range es.size) _ _ (by simp) λpl d pp=>?_);refine wX (wpAny_newTuple ?_ (by rw[vI,pp.length_eq,length_range,sz];exact fits_of_scanBound hb));refine wX (wpAny_setEpoch_of (vZ _ U) hd hf ?_);refine wX (wpAny_newObj_type (wY ⟨_,rfl,"set_iterator",_,⟨_,vY _ rfl,rfl⟩,bF.lookup,?_⟩));have hsz:(s.heap.push (seqObj "tuple" (pl.map λ(p:Nat)=>Value.int p 0).toArray 0)).objs.size=s.heap.objs.size+1:=size_push' _ _;have M:((pl.map λp=>(es.getD p (0,.none)).2)).Perm (es.toList.map (·.2)):=by
    have:=(pp.map λp=>es.getD p (0,Value.none)).map (·.2);rw[zU]at this;rw[uP]at this;exact this
   refine hQ _ d _ (pl.map λp=>(es.getD p (0,.none)).2) [(s.heap.push (seqObj "tuple" (pl.map λ(p:Nat)=>Value.int p 0).toArray 0)).objs.size,S,s.heap.objs.size] (λi h=>h.get? (s.heap.push (seqObj "tuple" (pl.map λ(p:Nat)=>Value.int p 0).toArray 0)).objs.size=some (lG (.ref s.heap.objs.size) i S es.size ep)/\h.get? S=some o/\h.get? s.heap.objs.size=some (seqObj "tuple" (pl.map λ(p:Nat)=>Value.int p 0).toArray 0)) (λA' hA=>?_) ?_ (λb u e=>vZ _ (vZ _ e)) ?_ (λb hb=>?_) ?_ ?_ ?_
   ·rw[←sz];exact zT (nt:=0) hA hd hf (by show S≠(s.heap.push _).objs.size;rw[size_push'];exact vS (lt_succ_of_lt O)) (by show s.heap.objs.size≠(s.heap.push _).objs.size;rw[size_push'];exact vS (lt_succ_self _)) pp
   ·exact⟨vY _ rfl,vZ _ (vZ _ U),vZ _ (vY _ rfl)⟩
   ·show s.heap.objs.size<=(s.heap.push _).objs.size;rw[size_push'];omega
   ·simp only[mem_cons,not_mem_nil,or_false]at hb;rcases hb with rfl|rfl|rfl
    ·refine .inr ?_;show s.heap.objs.size<=(s.heap.push _).objs.size;rw[size_push'];omega
    ·exact .inl rfl
    ·exact .inr (vT _)
   ·rw[M.length_eq,vI,vG,sz]
   ·exact((M.map kf).trans (by rw[T])).trans hp
   ·intro v hv;obtain⟨e,he,rfl⟩:=vO (M.mem_iff.mp hv);exact G e he
end
def CQ (h:ItemsOf (λi v=>vs[i]? = some v) Cm vs.length):Cm.toList=vs:=by
 apply ext_getElem?;intro i;by_cases hi:i<Cm.size
 ·have e:Cm[i]? = some Cm[i]:=getElem?_eq_getElem hi;rw[getElem?_toList,e,h.2 i _ e]
 ·rw[getElem?_eq_none (by rw[vG];omega),getElem?_eq_none (by rw[←h.1];omega)]
section
variable {prog:Program}{w:World}{A:Around}{E:QV}{s:Shared}{κ:Type}[DecidableEq κ] {kd:PySem.KeyKind prog w κ}{kf:Value->κ}{mk:κ->Tok->Value}
def xN (K0:zE kd kf mk)(hh:A.handled=none)(hS:iR kd kf s.heap S ts)
  (hQ:∀s' vs,(∀b u,s.heap.get? b=some u->s'.heap.get? b=some u)->s'.gens=s.gens->s'.os=s.os->vs.length=ts.length->(vs.map kf).Perm ts->(∀v∈vs,∃x t,v=mk x t)->Q vs s'):
  wpAny (model prog w) A (collect (.ref S)) Q E s:=by
 have g:∀(s1:Shared),iR kd kf s1.heap S ts->s1.TypeIs (.ref S) "set":=λs1 h=>by
  obtain⟨o,_,_,_,ho,Gx,_⟩:=h;exact⟨o,ho,Gx.1⟩
 have Cn:S<s.heap.objs.size:=by obtain⟨o,_,_,_,ho,_⟩:=hS;exact vX ho
 have O:ts.length<scanBound:=by obtain⟨_,_,_,_,_,_,_,_,_,_,h,_⟩:=hS;exact h
 unfold collect;refine wX (wpAny_runValue (codeAny_builtin PySem.F.entry_proto_collect ?_));rw[Around.under_plainId PySem.F.plain_proto_collect _];show wpAny _ A.in1 (newList []>>=λl=>again (.builtin "list.__iadd__" ⟨[l,.ref S],[]⟩)) _ _ s;refine wX (wpAny_newObj_type ?_);refine wY ⟨plainId_quiet PySem.F.plain_list_iadd _,codeAny_builtin PySem.F.entry_list_iadd ?_⟩;rw[Around.under_plainId PySem.F.plain_list_iadd _];show wpAny _ A.in1 (Builtin.List.listExtendWith (.ref s.heap.objs.size) (.ref S) (.ref s.heap.objs.size)) _ _ _;unfold Builtin.List.listExtendWith;have T:iR kd kf (s.heap.push { cls:=.type "list",data:=.seq ([]:LU).toArray }) S ts:=hS.at λo e=>vZ _ e;refine wX (wpAny_typeOf (g _ T) ?_);have Tv:s.heap.objs.size≠S:=ne_of_gt Cn;have h1:Builtin.List.listSameRef (.ref s.heap.objs.size) (.ref S)=false:=by simp[Builtin.List.listSameRef,Tv]
 have h2:(Value.type "set" == Value.type "list")=false:=by decide
 have h3:(Value.type "set" == Value.type "tuple")=false:=by decide
 simp only[h1,h2,h3,Bool.or_false,uV,if_false];refine wX (E6 K0 (s:={ s with heap:=s.heap.push { cls:=.type "list",data:=.seq ([]:LU).toArray } }) T λh' d it vs fp St W Ka hk A5 hfp JU U hstr=>?_);have OU:iR kd kf h' S ts:=T.at λo e=>hk _ _ e;refine wX (wpAny_holding ?_);unfold Builtin.List.listLengthHint;refine wX (wpAny_specialOf (g _ OU) PySem.F.slot_set_len.lookup ?_);wp_delta;refine wX (wpAny_isInstance (g _ OU) sub_set_self ?_);show wpAny _ A.in1 (typeOf (Value.ref S)>>=_) _ _ _;refine wX (wpAny_typeOf (g _ OU) ?_);refine wY ?_;rw[if_pos (by decide)];refine wX (wpAny_rule ?_);refine wX ?_;have G:(s.heap.push { cls:=.type "list",data:=.seq ([]:LU).toArray }).objs.size=s.heap.objs.size+1:=size_push' _ _;have PM:h'.get? s.heap.objs.size=some { cls:=.type "list",data:=.seq ([]:LU).toArray }:=hk _ _ (vY _ rfl);show wpAny _ A.in1 (updateSeq s.heap.objs.size (·.push .none)>>=λ_=>updateSeq s.heap.objs.size (·.pop)) _ _ _;refine wX (wpAny_updateSeq PM rfl ?_);have Tw:=Heap.get?_update_self (Obj.mapSeq (·.push Value.none)) PM rfl;refine wpAny_updateSeq Tw rfl ?_;have VM:=Heap.get?_update_self (Obj.mapSeq (·.pop)) Tw rfl;have PL:s.heap.objs.size∉fp:=λhm=>by
  rcases hfp _ hm with z|z
  ·exact Tv z
  ·rw[G]at z;exact absurd z (Nat.not_succ_le_self _)
 have Tz:∀b u,b≠s.heap.objs.size->h'.get? b=some u ->
   ((h'.update s.heap.objs.size (Obj.mapSeq (·.push Value.none))).update s.heap.objs.size (Obj.mapSeq (·.pop))).get? b=some u :=
  λb u hb e=>(Heap.get?_update_other _ _ (Ne.symm hb)).trans ((Heap.get?_update_other _ _ (Ne.symm hb)).trans e)
 have W0:=W A.in1 hh;refine wY ⟨plainId_quiet PySem.F.plain_extend_loop _,codeAny_extend_loopS W0.toS (fits_of_scanBound O) _ PL _ ts.length 0 _ _ _ rfl (uN _)
  (W0.frame 0 _ _ Ka λb hb u e=>Tz b u (λz=>PL (z ▸ hb)) e) VM (ItemsOf.nil _) λs' acc' c' hm hL' M=>?_⟩
 show wpAny _ A (load s.heap.objs.size>>=_) _ _ s';refine wX (wpAny_load hL' ?_);rw[←JU]at M;refine wY ?_;show Q acc'.toList s';rw[CQ M];refine hQ s' vs (λb u e=>hm.heap b u (λhb=>?_) (Tz b u (vS (vX e)) (hk _ _ (vZ _ e)))) hm.gens hm.os JU U hstr;have hl:=vX e;simp only[mem_cons,not_mem_nil,or_false]at hb;rcases hb with rfl|rfl
 ·exact absurd hl (Nat.lt_irrefl _)
 ·rw[G]at A5;exact absurd (vQ hl (Nat.le_of_succ_le A5)) (Nat.lt_irrefl _)
def xO (prog:Program)(w:World)(kf:Value->κ)(mk:κ->Tok->Value)(R:List κ->LU->Prop):Prop:=∀ {E:QV}{g:List κ}{vs:LU}{A:Around}{s:Shared}{a:Addr}{P},(∀v∈vs,∃x t,v=mk x t)->(vs.map kf).Perm g->vs.length<64 ->
 s.heap.get? a=some (seqObj "list" vs.toArray 0)->(∀out:AV,R g out.toList->P (.done (.ret .none)) { s with heap:=sortedHeap s.heap a vs out })->wpAny (model prog w) A (Builtin.«list.sort» ⟨[.ref a],[]⟩) P E s
def zV (K0:zE kd kf mk)(so:xO prog w kf mk R)(hh:A.handled=none)(hS:iR kd kf s.heap S ts)(T:ts.length<64)
  (hQ:∀(s1:Shared)(h':Heap)(a:Addr)(out:AV)(n:Nat),(∀b u,s.heap.get? b=some u->s1.heap.get? b=some u)->s1.os=s.os->s1.gens=s.gens->(∀b u,s1.heap.get? b=some u->h'.get? b=some u)->s1.heap.objs.size<=a->h'.get? a=some (seqObj "list" out n) ->
   R ts out.toList->Q (.ref a) { s1 with heap:=h' }):
  wpAny (model prog w) A (call (.builtin "sorted") [.ref S]) Q E s:=by
 refine Calls.call_function_entry kind_sorted plain_sorted entry_sorted (args_sorted1 _) ?_;unfold Builtin.«sorted»;refine wX (m:=checkCount "sorted" 1 1 _) (wY ?_);refine wX (xN K0 (A:=A.in1) (by exact hh) hS λs1 vs hk hg U M g O=>?_);refine wX (wpAny_newList ?_ (by rw[M,sizeLine_eq];omega));have G:(s1.heap.push (seqObj "list" vs.toArray 0)).get? s1.heap.objs.size=some (seqObj "list" vs.toArray 0):=vY _ rfl;show wpAny _ _ _ _ _ { s1 with heap:=s1.heap.push (seqObj "list" vs.toArray 0) };refine wX (wpAny_holding (wpAny_call_entry slot_list_sort ⟨_,G,rfl⟩ entry_list_sort (so O g (by rw[M];exact T) G λout hr=>⟨_,rfl,?_⟩) (args_list_sort _)));obtain⟨e,he⟩:=sortedHeap_at (out:=out) G;refine wY ⟨_,rfl,hQ s1 _ _ _ e hk U hg (λb u q=>?_) (vT _) he hr⟩;have hl:=vX q;rw[sortedHeap_old (vS hl) (by rw[size_push'];exact lt_succ_of_lt hl)];exact vZ _ q
end
end DL
namespace DL
open PySem PySem.Spec PyProof.Rows L2
def v0 (a b:Str):Prop:=¬b.cps.toList<a.cps.toList
def Bf:ltCps b.cps.toList a.cps.toList=false↔v0 a b:=by rw[ltCps_eq,decide_eq_false_iff_not];rfl
def tF (h:v0 a b)(k:v0 b c):v0 a c:=by
 unfold v0 at *;exact not_lt.mpr (le_trans (not_lt.mp h) (not_lt.mp k))
def E7 (h:v0 a b)(k:v0 b a):a=b:=by
 have e:a.cps.toList=b.cps.toList:=le_antisymm (not_lt.mp h) (not_lt.mp k);obtain⟨a⟩:=a;obtain⟨b⟩:=b;have:a=b:=toList_inj.mp e;rw[this]
noncomputable def zW (x:Str):LS->LS
 |[]=>[x]
 |y::r=>if ltCps y.cps.toList x.cps.toList then y::zW x r else x::y::r
noncomputable def jM (l:LS):LS:=l.foldr zW []
theorem ny (x:Str):∀l,(zW x l).Perm (x::l)
 |[]=>List.Perm.refl _
 |y::r=>by
  unfold zW;split
  ·exact((ny x r).cons y).trans (List.Perm.swap x y r)
  ·exact List.Perm.refl _
theorem eY:∀l,(jM l).Perm l
 |[]=>List.Perm.refl _
 |x::l=>(ny x (jM l)).trans ((eY l).cons x)
theorem tG (x:Str):∀l,l.Pairwise v0->(zW x l).Pairwise v0
 |[],_=>by simp[zW]
 |y::r,h=>by
  obtain⟨h1,h2⟩:=pairwise_cons.mp h;unfold zW;split
  ·rename_i hl;refine pairwise_cons.mpr ⟨λz hz=>?_,tG x r h2⟩;rcases vP ((ny x r).mem_iff.mp hz)with rfl|hz
   ·rw[ltCps_eq,decide_eq_true_eq]at hl;exact λk=>lt_irrefl _ (lt_trans hl k)
   ·exact h1 z hz
  ·rename_i hl;rw[not_eq_true]at hl;have g:v0 x y:=Bf.mp hl;refine pairwise_cons.mpr ⟨λz hz=>?_,h⟩;rcases vP hz with rfl|hz
   ·exact g
   ·exact tF g (h1 z hz)
theorem pX:∀l,(jM l).Pairwise v0
 |[]=>List.Pairwise.nil
 |x::l=>tG x _ (pX l)
theorem oj:∀(l:LS)(p:Str),risingS p l=true->(p::l).Pairwise v0
 |[],p,_=>List.pairwise_singleton _ _
 |x::r,p,h=>by
  have h':(!ltCps x.cps.toList p.cps.toList && risingS x r)=true:=h;rw[vC]at h';have g:v0 p x:=Bf.mp (by simpa using h'.1);have G:=oj r x h'.2;refine pairwise_cons.mpr ⟨λz hz=>?_,G⟩;rcases vP hz with rfl|hz
  ·exact g
  ·exact tF g ((pairwise_cons.mp G).1 z hz)
theorem xP:∀(l:LS),sortedS l=true->l.Pairwise v0
 |[],_=>List.Pairwise.nil
 |x::r,h=>oj r x h
def xQ (a:Str):v0 a a:=lt_irrefl _
theorem pY:∀(G g:LS),G.Perm g->G.Pairwise v0->g.Pairwise v0->G=g
 |[],g,p,_,_=>(nil_perm.mp p).symm
 |x::T,[],p,_,_=>absurd p.length_eq (by simp)
 |x::T,y::U,p,h1,h2=>by
  have M:v0 x y:=by
   rcases vP (p.mem_iff.mpr (mX ..))with z|z
   ·rw[z];exact xQ _
   ·exact(pairwise_cons.mp h1).1 y z
  have O:v0 y x:=by
   rcases vP (p.mem_iff.mp (mX ..))with z|z
   ·rw[z];exact xQ _
   ·exact(pairwise_cons.mp h2).1 x z
  have e:=E7 M O;subst e;rw[pY T U (List.Perm.cons_inv p) (pairwise_cons.mp h1).2 (pairwise_cons.mp h2).2]
def tH (p:l'.Perm l)(h:sortedS l'=true):l'=jM l:=pY _ _ (p.trans (eY l).symm) (xP _ h) (pX l)
section
variable {X:Cx}
noncomputable def xR {prog:Program}{w:World}{κ:Type}[DecidableEq κ](kd:PySem.KeyKind prog w κ)(kf:Value->κ)(S:Addr)(g:List κ):HO:=.ext λh=>iR kd kf h S g
def tI (I:Inv X ae σ H s)(k:∀b u,s.heap.get? b=some u->s1.heap.get? b=some u)(g:s1.os=s.os)(G:s1.gens=s.gens):Inv X ae σ H s1:=by
 have M:=I.step (g':=s.gens) (d':=s1.drawn) (t':=s1.toks) (h':=s1.heap) (H':=H) (ch:=[]) (λ_ z=>nomatch z) (λb o _ _ _ e _=>k b o e) (λb o _ _ _ e _=>⟨o.slots,k b o e⟩) (λ_ _ _ _ n=>n)
  (λb o _ e=>⟨o,k b o e⟩) (λ_ _ e=>e) (λ_ _ _ e=>e) (λ_ _ e=>e) (λm hm=>?_) (I.hok.kept k) I.bare
 ·obtain⟨h1,g1,d1,T,U⟩:=s1;cases g;cases G
  exact M
 ·obtain⟨o,es,O,g,r⟩:=hm;exact⟨o,es,O,k _ o g,r⟩
variable {κ:Type}[DecidableEq κ] {kd:PySem.KeyKind X.prog X.w κ}{kf:Value->κ}{mk:κ->Tok->Value}{sf:List κ->List κ}{mv:κ->V}
def E8 (mk:κ->Tok->Value)(its:LU)(g:List κ):Prop:=its.length=g.length/\∀(i:Nat)(v:Value),its[i]? = some v->∃x t,v=mk x t/\g[i]? = some x
def om (T:zE kd kf mk)(hc:X.calm=true):bP X (.type "set") (λxs H Q=>∃p ys G,xs=[.ref p]/\gP X.K H p ys/\(∀its,bc ys its->E8 mk its G)/\G.length<4000/\∀S,H S=none->Q (.ref S) (upd H S (xR kd kf S (fy G)))):=by
 intro ae s σ H xs us Q I r h;obtain⟨p,ys,G,rfl,hq,hs,U,q⟩:=h;obtain⟨u,rfl,rx⟩:=gK r;cases rx
 obtain⟨its,r',pl,hz⟩:=I.list hq;obtain⟨g,M⟩:=hs its r';refine sv T (I.ok.hd hc) pl.isList (by simpa using M) (by simp[g]) (by simp only[vH];unfold scanBound;omega) λh' tk O hk=>?_;refine⟨.ref s.heap.objs.size,_,I.laid (t':=tk) (λb u e=>hk b u (vX e) e) (vT _) ?_,rfl,q _ (I.hok.fresh (vT _))⟩;refine⟨O,?_,λh1 h2 z k=>z.at k⟩;obtain⟨o,_,_,_,ho,_⟩:=O;exact⟨o,ho⟩
def oP (O:zE kd kf mk)(T:xO X.prog X.w kf mk λg=>bc ((sf g).map mv))(sl:∀g,(sf g).length=g.length)(hc:X.calm=true):bP X (.builtin "sorted") (λxs H Q=>∃S g,xs=[.ref S]/\H S=some (xR kd kf S g)/\g.length<64/\∀l,H l=none->Q (.ref l) (upd H l (.lst ((sf g).map mv)))):=by
 intro ae s σ H xs us Q I r h;obtain⟨S,g,rfl,U,G,q⟩:=h;obtain⟨u,rfl,rx⟩:=gK r;cases rx
 refine zV O T (I.ok.hd hc) (I.hok S _ U).1 G λs1 h' a out n k1 ho hg k2 hp he hv=>?_;have M:=tI I k1 ho hg;refine⟨.ref a,_,M.laid (t':=s1.toks) k2 hp (show bO X.prog X.w _ h' _ (.lst _)from ⟨?_,out.toList,n,hv,he⟩),rfl,q _ (M.hok.fresh hp)⟩;rw[vI,sl,sizeLine_eq];omega
end
def Uy {prog:Program}{w:World}:zE (PySem.strKind prog w) strOf .str:=⟨strKind_is prog w,λh=>Value.isStrOf_shape h,λ_ _=>rfl,λ_ _=>rfl⟩
theorem nz:∀ {its:LU}{zs:LS},StrsAre its zs->bc (zs.map V.str) its
 |_,_,.nil=>.nil
 |_,_,.cons x t r=>.cons ⟨t,rfl⟩ (nz r)
def Uz {prog:Program}{w:World}:xO prog w strOf .str λO=>bc ((jM O).map V.str):=λh1 h2 h3 T h=>by
 have g:=strsAre_map _ h1;refine list_sort_treeK strKind_oneLt T g.keysOf (λG M aA e=>keyKind_strs (by rw[←e];exact g)) h3 λU a1 a2=>?_;obtain⟨T0,b1,b2,b3⟩:=sorted_out_str g a1 a2;have e:=tH (b2.trans h2) b3;subst e;exact h _ (nz b1)
def CS (g:LS):(jM g).length=g.length:=(eY g).length_eq
def StrsAre.keys (h:StrsAre its ss):E8 .str its ss:=⟨by rw[←h.strs,vI],StrsAre.at h⟩
@[simp] def ia:D->OB
 |.lst ds=>(gy ds).bind λg=>if g.length<64 then some (.lst ((jM (fy g)).map .str),true)else none
 |_=>none
def mn:bootBuiltins "sorted" = some (.builtin "sorted"):=by decide +kernel
def Jz:bootBuiltins "set" = some (.type "set"):=by decide +kernel
theorem pZ {K:Frag}{N:Hp}:∀(zs:LS),IsL K N (zs.map V.str) (zs.map D.str)
 |[]=>.nil
 |z::zs=>.cons (.str z) (pZ zs)
@[simp] def xS {κ:Type}[DecidableEq κ](G:LD->Option (List κ))(M:List κ->List κ)(O:κ->D):D->OB
 |.lst ds=>(G ds).bind λg=>if g.length<64 then some (.lst ((M (fy g)).map O),true)else none
 |_=>none
section
variable {X:Cx}{e:Expr}{pos pos2 p p2:Pos}{κ:Type}[DecidableEq κ] {kd:PySem.KeyKind X.prog X.w κ}{kf:Value->κ}{mk:κ->Tok->Value}{sf:List κ->List κ}{mv:κ->V}{md:κ->D}{ef:LD->Option (List κ)}
def xT (K0:zE kd kf mk)(so:xO X.prog X.w kf mk λO=>bc ((sf O).map mv))(sl:∀O,(sf O).length=O.length)(im:∀ {N:Hp}(zs:List κ),IsL X.K N (zs.map mv) (zs.map md))(ka:∀ {B ys ds its G},bc ys its->IsL X.K B ys ds->ef ds=some G->E8 mk its G)
  (hc:X.calm=true) (m1:X.mg "sorted" = none) (m2:X.mg "set" = none) (he:JE X e f) (g1:Gl X "sorted":=by rfl) (g2:Gl X "set":=by rfl)
  (h1:starEach [e] X.env=(false,eval e X.env)::starEach [] X.env:=by rfl):JE X (.Call (.Name "sorted" p) [.Call (.Name "set" p2) [e] [] pos2] [] pos) (f1 (xS ef sf md) f):=by
 refine PE.to (pD (oP K0 so sl hc) g1 m1 mn (ee (nj (om K0 hc) g2 m2 Jz (ee he gE h1) (he:=h1)) gE)) λσ H Q q=>?_;obtain⟨B,ρ,d',bb,sB,r,g,q⟩:=q;obtain⟨U,ex,g⟩:=oX g;refine⟨B,ρ,U.1,U.2,sB,r,ex,λv H1 N1 T i1 fr=>?_⟩;obtain⟨xd,xb⟩:=U;cases i1<;>try (simp[xS]at g;done)
 rename_i l0 vs ds h hl;simp only[xS]at g;obtain⟨G,ez,g⟩:=oX g;split at g
 ·rename_i Kb;cases g
  refine⟨_,_,G,rfl,T.nh.seq h,λits r'=>ka r' hl ez,by omega,λS hS=>⟨S,_,rfl,aC,lt_of_le_of_lt (jZ G) Kb,λl M=>?_⟩⟩;have x2:=Ext.laid (o:=xR kd kf S (fy G)) T.nh hS;have x3:=Ext.laid (o:=.lst ((sf (fy G)).map mv)) x2.nh M;have VN:H l=none:=((T.trans x2).hh).free M;exact q _ _ _ ((T.trans x2).trans x3) (.lst (gP.of aC) (im _)) λ_=>⟨_,_,_,rfl,rfl,VN,aC,im _⟩
 ·cases g
def qb (hc:X.calm=true)(g:X.mg "sorted" = none)(G:X.mg "set" = none)(he:JE X e f)(g1:Gl X "sorted":=by rfl)(M:Gl X "set":=by rfl)
  (h1:starEach [e] X.env=(false,eval e X.env)::starEach [] X.env:=by rfl):JE X (.Call (.Name "sorted" p) [.Call (.Name "set" p2) [e] [] pos2] [] pos) (f1 ia f):=by
 rw[show ia=xS gy jM .str from funext λd=>by cases d<;>rfl]
 exact xT Uy Uz CS pZ (λO hl T=>StrsAre.keys (ji O hl T)) hc g G he g1 M h1
end
end DL
namespace DL
open PySem PySem.Spec PySem.W PyProof.Rows
inductive Run (n:Nat)(lt:Nat->Nat->Bool){α:Type}:KasT α->α->Prop where
 |ret (a:α):Run n lt (.ret a) a
 |ask {i j:Nat}{k:Bool->KasT α}{a:α}(hi:i<n) (hj:j<n) (h:Run n lt (k (lt i j)) a):Run n lt (.ask i j k) a
def Run.bind {n:Nat}{lt:Nat->Nat->Bool}{α g:Type}{t:KasT α}{f:α->KasT g}{a:α}{b:g}(h:Run n lt t a)(k:Run n lt (f a) b):Run n lt (t.bind f) b:=by
 induction h with
 |ret a=>exact k
 |ask hi hj _ G=>exact .ask hi hj (G k)
def Run.wp {n:Nat}{lt:Nat->Nat->Bool}{α:Type}{g:Nat->Nat->(Bool->Shared->Prop)->Shared->Prop}{Q:α->Shared->Prop}{t:KasT α}{a:α}(J:Shared->Prop)
  (hc:∀i j C s,i<n->j<n->J s->(∀s',J s'->C (lt i j) s')->g i j C s) (h:Run n lt t a):∀ {s:Shared},J s->(∀s',J s'->Q a s')->t.kasWp g Q s:=by
 induction h with
 |ret a=>intro s G M;exact M s G
 |ask hi hj _ T=>intro s G M;exact hc _ _ _ _ hi hj G λs' O=>T O M
section
variable {n:Nat}{rk:Nat->Int}
noncomputable abbrev qc (rk:Nat->Int)(i j:Nat):Bool:=decide (rk i<rk j)
noncomputable def cr (rk:Nat->Int)(p:Array Nat)(k:Nat):Int:=rk (p.getD k 0)
structure mU (n:Nat)(p:Array Nat):Prop where
 size:p.size=n
 perm:p.toList.Perm (List.range n)
def mU.lt {p:Array Nat}(h:mU n p){k:Nat}(hk:k<n):p.getD k 0<n:=by
 have g:k<p.size:=by rw[h.size];exact hk
 have:p.getD k 0=p[k]:=by rw[getD_eq_getD_getElem?,getElem?_eq_getElem g];rfl
 rw[this];exact mem_range.mp (h.perm.mem_iff.mp (by simp))
def mU.rev {p:Array Nat}(h:mU n p)(i j:Nat):mU n (kas_rev p i j) :=
 ⟨(mirror_size _ _ _ _).trans h.size,(Array.perm_iff_toList_perm.mp (mirror_perm p i j _)).trans h.perm⟩
def mU.bub {p:Array Nat}(h:mU n p)(k d:Nat):mU n (bubble p k d) :=
 ⟨(bubble_size _ _ _).trans h.size,(Array.perm_iff_toList_perm.mp (bubble_perm p k d)).trans h.perm⟩
def v6 {p:Array Nat}{i j:Nat}(hj:j<=p.size)(k:Nat):cr rk (kas_rev p i j) k=if i<=k/\k<j then cr rk p (i+j - 1 - k)else cr rk p k:=by
 unfold cr kas_rev;rw[getD_eq_getD_getElem?,getElem?_mirror_all hj];split<;>rw[getD_eq_getD_getElem?]
def E9 {p:Array Nat}{g d:Nat}(hs:g<p.size)(hd:d<=g)(k:Nat):cr rk (bubble p g d) k=if k=g - d then cr rk p g else if g - d<k/\k<=g then cr rk p (k - 1)else cr rk p k:=by
 unfold cr;simp only[getD_eq_getD_getElem?];rw[getElem?_bubble hs d hd];repeat' split
 all_goals rfl
def Up (rk:Nat->Int)(p:Array Nat)(m:Nat):Prop:=∀i j,i<=j->j<m->cr rk p i<=cr rk p j
def wa (rk:Nat->Int)(p:Array Nat)(m:Nat):Prop:=∀i j,i<=j->j<m->cr rk p j<=cr rk p i
def Lx (p:Array Nat):Up rk p 1:=λi j h1 h2=>by
 have:i=j:=by omega
 subst this;exact le_refl _
theorem wb {p:Array Nat}(h:mU n p){r:Nat}(U:r<=n):∀(f m:Nat),r - m=f->1<=m->m<=r->Up rk p m->∃g,Run n (qc rk) (kas_asc p f m) g/\m<=g/\g<=r/\Up rk p g/\(g<r->cr rk p g<cr rk p (g - 1))
 |0,m,hf,h1,hm,hu=>⟨m,.ret m,vT _,hm,hu,λz=>by omega⟩
 |f+1,m,hf,h1,hm,hu=>by
  have O:=h.lt (k:=m) (by omega);have T:=h.lt (k:=m - 1) (by omega);by_cases hc:cr rk p m<cr rk p (m - 1)
  ·refine⟨m,.ask O T ?_,vT _,hm,hu,λ_=>hc⟩;have:qc rk (p.getD m 0) (p.getD (m - 1) 0)=true:=decide_eq_true hc;rw[this,if_pos rfl];exact .ret m
  ·have G:Up rk p (m+1):=λi j M hj=>by
    by_cases e:j=m
    ·subst e;by_cases e2:i=j
     ·subst e2;exact le_refl _
     ·have:=hu i (j - 1) (by omega) (by omega);omega
    ·exact hu i j M (by omega)
   obtain⟨g,q1,q2,q3,q4,q5⟩:=wb h U f (m+1) (by omega) (by omega) (by omega) G;refine⟨g,.ask O T ?_,by omega,q3,q4,q5⟩;have:qc rk (p.getD m 0) (p.getD (m - 1) 0)=false:=decide_eq_false hc;rw[this,if_neg uX];exact q1
def HH (rk:Nat->Int)(p:Array Nat)(m q:Nat):Prop:=q+1<=m/\∀k,m - (q+1)<=k->k<m->cr rk p k=cr rk p (m - 1)
def xU {p:Array Nat}{m q:Nat}(hs:m<=p.size)(hf:HH rk p m q)(k:Nat):cr rk (kas_rev p (m - (q+1)) m) k=cr rk p k:=by
 rw[v6 hs];split
 ·rename_i hk;have h0:=hf.1;rw[hf.2 k hk.1 hk.2,hf.2 _ (by omega) (by omega)]
 ·rfl
def Bg {p g:Array Nat}{m:Nat}(e:∀k,cr rk g k=cr rk p k)(h:wa rk p m):wa rk g m:=λi j h1 h2=>by rw[e,e];exact h i j h1 h2
def qd (p:Array Nat){m:Nat}(h:1<=m):HH rk p m 0:=⟨h,λk h1 h2=>by
 have:k=m - 1:=by omega
 rw[this]⟩
theorem mo {r:Nat}(hr:r<=n):∀(f:Nat)(p:Array Nat)(m q:Nat),mU n p->r - m=f->1<=m->m<=r->wa rk p m->HH rk p m q->∃g G T,Run n (qc rk) (kas_desc f p m q) (g,G,T)/\mU n g/\m<=G/\G<=r/\wa rk g G/\HH rk g G T
 |0,p,m,q,h,hf,h1,hm,hd,hq=>⟨p,m,q,.ret _,h,vT _,hm,hd,hq⟩
 |f+1,p,m,q,h,hf,h1,hm,hd,hq=>by
  have U:=h.lt (k:=m) (by omega);have a2:=h.lt (k:=m - 1) (by omega);have step:∀g:Array Nat,(∀k,cr rk g k=cr rk p k)->cr rk p m<=cr rk p (m - 1)->wa rk g (m+1):=λg e Ms i j hij hj=>by
   rw[e,e];by_cases z:j=m
   ·subst z;by_cases z2:i=j
    ·subst z2;exact le_refl _
    ·have:=hd i (j - 1) (by omega) (by omega);omega
   ·exact hd i j hij (by omega)
  by_cases hc:cr rk p m<cr rk p (m - 1)
  ·have M:qc rk (p.getD m 0) (p.getD (m - 1) 0)=true:=decide_eq_true hc;by_cases hq0:q > 0
   ·have e:=xU (p:=p) (by rw[h.size];omega) hq;obtain⟨g,G,T,g1,g2,g3,g4,g5,g6⟩:=mo hr f (kas_rev p (m - (q+1)) m) (m+1) 0 (h.rev _ _) (by omega) (by omega) (by omega) (step _ e (by omega)) (qd _ (by omega));refine⟨g,G,T,.ask U a2 ?_,g2,by omega,g4,g5,g6⟩;rw[M,if_pos rfl,if_pos hq0];exact g1
   ·obtain⟨g,G,T,g1,g2,g3,g4,g5,g6⟩:=mo hr f p (m+1) 0 h (by omega) (by omega) (by omega) (step _ (λ_=>rfl) (by omega)) (qd _ (by omega));refine⟨g,G,T,.ask U a2 ?_,g2,by omega,g4,g5,g6⟩;rw[M,if_pos rfl,if_neg hq0];exact g1
  ·have M:qc rk (p.getD m 0) (p.getD (m - 1) 0)=false:=decide_eq_false hc;by_cases Kc:cr rk p (m - 1)<cr rk p m
   ·have O:qc rk (p.getD (m - 1) 0) (p.getD m 0)=true:=decide_eq_true Kc;refine⟨p,m,q,.ask U a2 ?_,h,vT _,hm,hd,hq⟩;rw[M,if_neg uX];refine .ask a2 U ?_;rw[O,if_pos rfl];exact .ret _
   ·have O:qc rk (p.getD (m - 1) 0) (p.getD m 0)=false:=decide_eq_false Kc;have he:cr rk p m=cr rk p (m - 1):=by omega
    obtain⟨g,G,T,g1,g2,g3,g4,g5,g6⟩:=mo hr f p (m+1) (q+1) h (by omega) (by omega) (by omega) (step _ (λ_=>rfl) (by omega)) ⟨by have:=hq.1;omega,λk k1 k2=>by
     rw[Nat.add_sub_cancel];by_cases z:k=m
     ·rw[z]
     ·rw[hq.2 k (by omega) (by omega),he]⟩
    refine⟨g,G,T,.ask U a2 ?_,g2,by omega,g4,g5,g6⟩;rw[M,if_neg uX];refine .ask a2 U ?_;rw[O,if_neg uX];exact g1
def xV {r:Nat}(M:r<=n){p:Array Nat}(h:mU n p){m:Nat}(h1:1<=m)(hm:m<=r)(hd:wa rk p m):∃g G,Run n (qc rk) (kas_tail3 m r p) (g,G)/\mU n G/\1<=g/\g<=r/\Up rk G g:=by
 have hu:Up rk (kas_rev p 0 m) m:=λi j O hj=>by
  rw[v6 (by rw[h.size];omega),v6 (by rw[h.size];omega),if_pos (by omega),if_pos (by omega)];exact hd _ _ (by omega) (by omega)
 obtain⟨g,T,q2,U,q4,_⟩:=wb (h.rev 0 m) M (r - m) m rfl h1 hm hu;exact⟨g,_,T.bind (.ret _),h.rev 0 m,by omega,U,q4⟩
def xW {r:Nat}(O:r<=n){p:Array Nat}(h:mU n p){m:Nat}(hm:m+1<=r)(hd:wa rk p (m+1)):∃g G,Run n (qc rk) (kas_descPart m r p) (g,G)/\mU n G/\1<=g/\g<=r/\Up rk G g:=by
 obtain⟨p1,M,q1,g1,T,g3,g4,g5,g6⟩:=mo O (r - (m+1)) p (m+1) 0 h rfl (by omega) hm hd (qd _ (by omega));by_cases hq:q1 > 0
 ·obtain⟨g,G,k1,k2,U,k4,k5⟩:=xV O (T.rev (M - (q1+1)) M) (m:=M) (by omega) g4 (Bg (xU (by rw[T.size];omega) g6) g5);exact⟨g,G,g1.bind (by dsimp only;rw[if_pos hq];exact k1),k2,U,k4,k5⟩
 ·obtain⟨g,G,k1,k2,U,k4,k5⟩:=xV O T (m:=M) (by omega) g4 g5;exact⟨g,G,g1.bind (by dsimp only;rw[if_neg hq];exact k1),k2,U,k4,k5⟩
def CT {p:Array Nat}(h:mU n p)(hn:1<=n):∃G M,Run n (qc rk) (kas_count n p) (G,M)/\mU n M/\1<=G/\G<=n/\Up rk M G:=by
 obtain⟨m,U,q2,q3,q4,q5⟩:=wb h (vT n) (n - 1) 1 rfl (vT 1) hn (Lx (rk:=rk) p);by_cases e:m=n
 ·exact⟨m,p,U.bind (by rw[if_pos (by simp[e])];exact .ret _),h,q2,q3,q4⟩
 ·have T:=q5 (by omega);have e1:¬(m == n)=true:=by simp[e]
  by_cases O:m > 1
  ·by_cases hc:cr rk p 0<cr rk p (m - 1)
   ·refine⟨m,p,U.bind ?_,h,q2,q3,q4⟩;rw[if_neg e1,if_pos O];refine .ask (h.lt (by omega)) (h.lt (by omega)) ?_;have:qc rk (p.getD 0 0) (p.getD (m - 1) 0)=true:=decide_eq_true hc;rw[this,if_pos rfl];exact .ret _
   ·have g:∀k,k<m->cr rk p k=cr rk p 0:=λk hk=>by
     have z1:=q4 0 k (by omega) hk;have z2:=q4 k (m - 1) (by omega) (by omega);omega
    have er:∀k,cr rk (kas_rev p 0 m) k=cr rk p k:=λk=>by
     rw[v6 (by rw[h.size];omega)];split
     ·rename_i z;rw[g _ (by omega),g k z.2]
     ·rfl
    have hd:wa rk p (m+1):=λi j hij hj=>by
     by_cases z:j=m
     ·subst z;by_cases z2:i=j
      ·subst z2;exact le_refl _
      ·rw[g i (by omega)];rw[g (j - 1) (by omega)]at T;omega
     ·rw[g i (by omega),g j (by omega)];exact le_refl _
    obtain⟨G,M,k1,k2,k3,k4,k5⟩:=xW (vT n) (h.rev 0 m) (m:=m) (by omega) (Bg er hd);refine⟨G,M,U.bind ?_,k2,k3,k4,k5⟩;rw[if_neg e1,if_pos O];refine .ask (h.lt (by omega)) (h.lt (by omega)) ?_;have:qc rk (p.getD 0 0) (p.getD (m - 1) 0)=false:=decide_eq_false hc;rw[this,if_neg uX];exact k1
  ·have em:m=1:=by omega
   subst em;have hd:wa rk p 2:=λi j hij hj=>by
    by_cases z2:i=j
    ·subst z2;exact le_refl _
    ·have:i=0:=by omega
     have:j=1:=by omega
     subst_vars;have:=T;simp at this;omega
   obtain⟨G,M,k1,k2,k3,k4,k5⟩:=xW (vT n) h (m:=1) (by omega) hd;refine⟨G,M,U.bind ?_,k2,k3,k4,k5⟩;rw[if_neg e1,if_neg O];exact k1
theorem nA {p:Array Nat}(h:mU n p){k:Nat}(hk:k<n)(hu:Up rk p k):∀(f l r:Nat),r - l<=f->l<=r->r<=k->(∀i,i<l->cr rk p i<=cr rk p k)->(∀i,r<=i->i<k->cr rk p k<cr rk p i) ->
  ∃g,Run n (qc rk) (kas_place p k f l r) g/\g<=k/\(∀i,i<g->cr rk p i<=cr rk p k)/\(∀i,g<=i->i<k->cr rk p k<cr rk p i)
 |0,l,r,hf,hl,hr,h1,h2=>⟨l,.ret l,by omega,h1,λi a b=>h2 i (by omega) b⟩
 |f+1,l,r,hf,hl,hr,h1,h2=>by
  by_cases G:l ≥ r
  ·refine⟨l,?_,by omega,h1,λi a b=>h2 i (by omega) b⟩;unfold kas_place;rw[if_pos G];exact .ret l
  ·by_cases hc:cr rk p k<cr rk p ((l+r) / 2)
   ·obtain⟨g,M,O,T,U⟩:=nA h hk hu f l ((l+r) / 2) (by omega) (by omega) (by omega) h1 λi a b=>by
     have:=hu ((l+r) / 2) i a b;omega
    refine⟨g,?_,O,T,U⟩;unfold kas_place;rw[if_neg G];refine .ask (h.lt (by omega)) (h.lt (by omega)) ?_;have:qc rk (p.getD k 0) (p.getD ((l+r) / 2) 0)=true:=decide_eq_true hc;rw[this,if_pos rfl];exact M
   ·obtain⟨g,M,O,T,U⟩:=nA h hk hu f ((l+r) / 2+1) r (by omega) (by omega) hr (λi a=>by
     have:=hu i ((l+r) / 2) (by omega) (by omega);omega) h2
    refine⟨g,?_,O,T,U⟩;unfold kas_place;rw[if_neg G];refine .ask (h.lt (by omega)) (h.lt (by omega)) ?_;have:qc rk (p.getD k 0) (p.getD ((l+r) / 2) 0)=false:=decide_eq_false hc;rw[this,if_neg uX];exact M
theorem Bh:∀(f:Nat)(p:Array Nat)(k:Nat),mU n p->n - k=f->k<=n->Up rk p k->∃g,Run n (qc rk) (kas_bin f p k) g/\mU n g/\Up rk g n
 |0,p,k,h,hf,hk,hu=>⟨p,.ret p,h,(show k=n by omega) ▸ hu⟩
 |f+1,p,k,h,hf,hk,hu=>by
  have G:k<n:=by omega
  obtain⟨l,q1,q2,q3,q4⟩:=nA h G hu k 0 k (by omega) (by omega) (vT _) (λi z=>by omega) (λi a b=>by omega);have hsz:k<p.size:=by rw[h.size];exact G
  have O:Up rk (bubble p k (k - l)) (k+1):=λi j T hj=>by
   rw[E9 hsz (by omega),E9 hsz (by omega)];have e:k - (k - l)=l:=by omega
   rw[e];by_cases U:i=l
   ·rw[if_pos U];by_cases M:j=l
    ·rw[if_pos M];exact le_refl _
    ·rw[if_neg M,if_pos (by omega)];have:=q4 (j - 1) (by omega) (by omega);omega
   ·rw[if_neg U];by_cases i2:l<i/\i<=k
    ·rw[if_pos i2,if_neg (by omega),if_pos (by omega)];exact hu _ _ (by omega) (by omega)
    ·rw[if_neg i2];by_cases M:j=l
     ·rw[if_pos M];exact q3 i (by omega)
     ·rw[if_neg M];by_cases j2:l<j/\j<=k
      ·rw[if_pos j2];exact hu _ _ (by omega) (by omega)
      ·rw[if_neg j2];exact hu _ _ T (by omega)
  obtain⟨g,k1,k2,k3⟩:=Bh f (bubble p k (k - l)) (k+1) (h.bub _ _) (by omega) (by omega) O;exact⟨g,q1.bind k1,k2,k3⟩
def xX (hn:1<=n):∃p,Run n (qc rk) (kas_sort n) p/\mU n p/\Up rk p n:=by
 have h0:mU n (List.toArray (List.range n)):=⟨by simp,by simp⟩;obtain⟨m,p,G,M,q3,q4,O⟩:=CT (rk:=rk) h0 hn;by_cases e:m<n
 ·have g:max m 1=m:=by omega
  obtain⟨T,k1,k2,U⟩:=Bh (n - max m 1) p (max m 1) M rfl (by omega) (by rw[g];exact O);exact⟨T,G.bind (by dsimp only;rw[if_pos e];exact k1),k2,U⟩
 ·have:m=n:=by omega
  subst this;exact⟨p,G.bind (by dsimp only;rw[if_neg e];exact .ret _),M,O⟩
end
def kO {a b c:LI}(h:a<b)(k:b<c):a<c:=lt_trans h k
def CU {a b c:LI}(h:¬b<a)(k:¬c<b):¬c<a:=not_lt.mpr (le_trans (not_lt.mp h) (not_lt.mp k))
def EA {a b:LI}(h:¬b<a)(k:¬a<b):a=b:=le_antisymm (not_lt.mp h) (not_lt.mp k)
section
variable {α:Type}(f:α->LI)
def EB (a b:α):Prop:=¬f b<f a
noncomputable def zX (x:α):List α->List α
 |[]=>[x]
 |y::r=>if f y<f x then y::zX x r else x::y::r
noncomputable def eP (l:List α):List α:=l.foldr (zX f) []
theorem nB (x:α):∀l,(zX f x l).Perm (x::l)
 |[]=>List.Perm.refl _
 |y::r=>by
  unfold zX;split
  ·exact((nB x r).cons y).trans (List.Perm.swap x y r)
  ·exact List.Perm.refl _
theorem aR:∀l,(eP f l).Perm l
 |[]=>List.Perm.refl _
 |x::l=>(nB f x (eP f l)).trans ((aR l).cons x)
theorem tJ (x:α):∀l,l.Pairwise (EB f)->(zX f x l).Pairwise (EB f)
 |[],_=>by simp[zX]
 |y::r,h=>by
  obtain⟨h1,h2⟩:=pairwise_cons.mp h;unfold zX;split
  ·rename_i hl;refine pairwise_cons.mpr ⟨λz hz=>?_,tJ x r h2⟩;rcases vP ((nB f x r).mem_iff.mp hz)with rfl|hz
   ·exact λk=>lt_irrefl _ (kO hl k)
   ·exact h1 z hz
  ·rename_i hl;refine pairwise_cons.mpr ⟨λz hz=>?_,h⟩;rcases vP hz with rfl|hz
   ·exact hl
   ·exact CU hl (h1 z hz)
theorem eZ:∀l,(eP f l).Pairwise (EB f)
 |[]=>List.Pairwise.nil
 |x::l=>tJ f x _ (eZ l)
theorem tK:∀(g G:List α),(∀x∈g,∀y∈g,f x=f y->x=y)->g.Perm G->g.Pairwise (EB f)->G.Pairwise (EB f)->g=G
 |[],G,_,p,_,_=>(nil_perm.mp p).symm
 |x::M,[],_,p,_,_=>absurd p.length_eq (by simp)
 |x::M,y::U,hi,p,h1,h2=>by
  have hy:y∈x::M:=p.mem_iff.mpr (mX ..);have O:EB f x y:=by
   rcases vP hy with z|z
   ·rw[z];exact lt_irrefl _
   ·exact(pairwise_cons.mp h1).1 y z
  have T:EB f y x:=by
   rcases vP (p.mem_iff.mp (mX ..))with z|z
   ·rw[z];exact lt_irrefl _
   ·exact(pairwise_cons.mp h2).1 x z
  have e:x=y:=hi x (mX ..) y hy (EA O T);subst e;rw[tK M U (λa ha b hb=>hi a (mZ _ ha) b (mZ _ hb)) (List.Perm.cons_inv p) (pairwise_cons.mp h1).2 (pairwise_cons.mp h2).2]
theorem ib (hi:∀x∈l,∀y∈l,f x=f y->x=y)(p:l'.Perm l)(h:l'.Pairwise (EB f)):l'=eP f l :=
 tK f _ _ (λx hx y hy=>hi x (p.mem_iff.mp hx) y (p.mem_iff.mp hy)) (p.trans (aR f l).symm) h (eZ f l)
end
theorem lH {α:Type}{p q:α->Bool}(h:∀x,p x=true->q x=true):∀l:List α,(l.filter p).length<=(l.filter q).length
 |[]=>vT _
 |x::l=>by
  have g:=lH h l;rw[filter_cons,filter_cons];by_cases z:p x=true
  ·rw[if_pos z,if_pos (h x z)];simp only[vE];omega
  ·rw[if_neg z];split
   ·simp only[vE];omega
   ·exact g
noncomputable def mq (cs:List LI)(c:LI):Int:=((cs.filter λx=>decide (x<c)).length:Nat)
def HI {cs:List LI}{a b:LI}(h:¬b<a):mq cs a<=mq cs b:=by
 unfold mq;refine Int.ofNat_le.mpr (lH (λx hx=>?_) cs);rw[decide_eq_true_eq]at hx ⊢;rcases List.le_iff_lt_or_eq.mp (not_lt.mp h)with z|z
 ·exact kO hx z
 ·rw[←z];exact hx
def wc {cs:List LI}{a b:LI}(ha:a∈cs)(h:a<b):mq cs a<mq cs b:=by
 unfold mq;apply Int.ofNat_lt.mpr;induction cs with
 |nil=>simp at ha
 |cons c cs g=>
  have key:∀l:List LI,(l.filter λx=>decide (x<a)).length<=(l.filter λx=>decide (x<b)).length:=λl=>
   lH (λx hx=>by rw[decide_eq_true_eq]at hx ⊢;exact kO hx h) l
  rw[filter_cons,filter_cons];rcases vP ha with rfl|ha
  ·rw[if_neg (by simp[lt_irrefl]),if_pos (by simpa using h)];have:=key cs;simp only[vE];omega
  ·have:=g ha;by_cases z:c<a
   ·rw[if_pos (by simpa using z),if_pos (by simpa using kO z h)];simp only[vE];omega
   ·rw[if_neg (by simpa using z)];split
    ·simp only[vE];omega
    ·exact this
def xY (ha:a∈cs):decide (mq cs a<mq cs b)=decide (a<b):=by
 by_cases h:a<b
 ·rw[decide_eq_true h,decide_eq_true (wc ha h)]
 ·rw[decide_eq_false h,decide_eq_false];have:=HI (cs:=cs) h;omega
inductive At where
 |i (n:Int)
 |s (z:Str)
noncomputable def Ly:At->LI
 |.i n=>[n]
 |.s z=>z.cps.toList.map (λ(c:Nat)=>(c:Int)+1)++[0]
noncomputable def c7 (xs:List At):LI:=xs.flatMap Ly
noncomputable def bo:List At->List At->Option Bool
 |[],ys=>some (!ys.isEmpty)
 |_::_,[]=>some false
 |.i a::xs,.i b::ys=>if a=b then bo xs ys else some (decide (a<b))
 |.s a::xs,.s b::ys=>if a=b then bo xs ys else some (decide (a.cps.toList<b.cps.toList))
 |_::_,_::_=>none
theorem we:∀(a b:LN)(r g:LI),(a.map (λ(c:Nat)=>(c:Int)+1)++0::r)<(b.map (λ(c:Nat)=>(c:Int)+1)++0::g)↔a<b∨(a=b/\r<g)
 |[],[],r,g=>by simp[cons_lt_cons_iff]
 |[],y::b,r,g=>by simp[cons_lt_cons_iff]
 |x::a,[],r,g=>by simp[cons_lt_cons_iff];omega
 |x::a,y::b,r,g=>by
  rw[uY,uY,cons_append,cons_append,cons_lt_cons_iff,we a b r g,cons_lt_cons_iff];constructor
  ·rintro (h|⟨h,k|⟨k1,k2⟩⟩)
   ·exact .inl (.inl (by omega))
   ·exact .inl (.inr ⟨by omega,k⟩)
   ·exact .inr ⟨by rw[k1,show x=y by omega],k2⟩
  ·rintro ((h|⟨h,k⟩)|⟨h,k⟩)
   ·exact .inl (by omega)
   ·exact .inr ⟨by omega,.inl k⟩
   ·injection h with h1 h2;exact .inr ⟨by omega,.inr ⟨h2,k⟩⟩
def jj (x:At)(xs:List At):c7 (x::xs)=Ly x++c7 xs:=by unfold c7;rw[uO]
def Lz (x:At):Ly x≠[]:=by cases x<;>simp[Ly]
def Bi {a b:Str}:a.cps.toList=b.cps.toList↔a=b:=by
 constructor
 ·intro h;obtain⟨a⟩:=a;obtain⟨b⟩:=b;have:a=b:=toList_inj.mp h;rw[this]
 ·rintro rfl;rfl
theorem pb:∀(xs ys:List At)(b:Bool),bo xs ys=some b->b=decide (c7 xs<c7 ys)
 |[],[],b,h=>by simp[bo]at h;subst h;simp[c7]
 |[],y::ys,b,h=>by
  simp[bo]at h;subst h;rw[jj];cases e:Ly y with
  |nil=>exact absurd e (Lz y)
  |cons c cs=>simp[c7]
 |x::xs,[],b,h=>by simp[bo]at h;subst h;simp[c7]
 |.i a::xs,.i c::ys,b,h=>by
  rw[bo]at h;rw[jj,jj];show b=decide (a::c7 xs<c::c7 ys);split at h
  ·rename_i e;subst e;rw[pb xs ys b h];exact decide_eq_decide.mpr (by rw[cons_lt_cons_iff];simp)
  ·rename_i e;cases h
   exact decide_eq_decide.mpr (by rw[cons_lt_cons_iff];simp[e])
 |.s a::xs,.s c::ys,b,h=>by
  rw[bo]at h;rw[jj,jj];have g:∀(z:Str)(r:LI),Ly (.s z)++r=z.cps.toList.map (λ(c:Nat)=>(c:Int)+1)++0::r:=λz r=>by simp[Ly]
  rw[g,g];split at h
  ·rename_i e;subst e;rw[pb xs ys b h];exact decide_eq_decide.mpr (by rw[we];exact⟨λz=>.inr ⟨rfl,z⟩,λz=>z.elim (λq=>absurd q (lt_irrefl _)) (·.2)⟩)
  ·rename_i e;cases h
   exact decide_eq_decide.mpr (by rw[we,Bi];exact⟨.inl,λz=>z.elim id λq=>absurd q.1 e⟩)
 |.i _::_,.s _::_,b,h=>by simp[bo]at h
 |.s _::_,.i _::_,b,h=>by simp[bo]at h
theorem zY:∀(xs ys:List At),bo xs ys=some false->bo ys xs=some false->xs=ys
 |[],[],_,_=>rfl
 |[],y::ys,h,_=>by simp[bo]at h
 |x::xs,[],_,h=>by simp[bo]at h
 |.i a::xs,.i c::ys,h,k=>by
  rw[bo]at h k;by_cases e:a=c
  ·subst e;rw[if_pos rfl]at h k;rw[zY xs ys h k]
  ·rw[if_neg e]at h;rw[if_neg (Ne.symm e)]at k;simp at h k;omega
 |.s a::xs,.s c::ys,h,k=>by
  rw[bo]at h k;by_cases e:a=c
  ·subst e;rw[if_pos rfl]at h k;rw[zY xs ys h k]
  ·rw[if_neg e]at h;rw[if_neg (Ne.symm e)]at k;simp only[Option.some.injEq,decide_eq_false_iff_not]at h k;exact absurd (Bi.mp (le_antisymm (not_lt.mp k) (not_lt.mp h))) e
 |.i _::_,.s _::_,h,_=>by simp[bo]at h
 |.s _::_,.i _::_,h,_=>by simp[bo]at h
noncomputable def dc (ks:List (List At)):Bool:=ks.all λx=>ks.all λy=>(bo x y).isSome
def gX (h:dc ks=true)(hx:x∈ks)(hy:y∈ks):bo x y=some (decide (c7 x<c7 y)):=by
 have:=uR (uR h x hx) y hy;obtain⟨b,e⟩:=uU this;rw[e,pb _ _ _ e]
def kP (h:dc ks=true)(hx:x∈ks)(hy:y∈ks)(e:c7 x=c7 y):x=y:=by
 refine zY _ _ ?_ ?_
 ·rw[gX h hx hy,e,decide_eq_false (lt_irrefl _)]
 ·rw[gX h hy hx,e,decide_eq_false (lt_irrefl _)]
def zq:At->Value->Prop
 |.i n,v=>∃t,v=.int n t
 |.s z,v=>∃t,v=.str z t
def fz (h:Heap)(xs:List At)(v:Value):Prop:=∃a o its n,v=.ref a/\h.get? a=some o/\o.cls=.type "tuple"/\o.data=.seq its n/\Paired zq xs its.toList
def fz.keep (x:fz h xs v)(k:∀a o,o.cls=.type "tuple"->h.get? a=some o->h'.get? a=some o):fz h' xs v:=by
 obtain⟨a,o,its,n,e,g,hc,r⟩:=x;exact⟨a,o,its,n,e,k a o hc g,hc,r⟩
noncomputable def dr (ks:List (List At)):Bool:=ks.all (λx=>match x with|.i _::_=>true|_=>false) || ks.all (λx=>match x with|.s _::_=>true|_=>false)
section
variable {prog:Program}{w:World}{A:Around}{E:QV}{s:Shared}
theorem qe:∀(xs ys:List At)(its g:LU)(i:Nat),Paired zq xs its->Paired zq ys g->bo xs ys=some b->iC=decide (xs.length<ys.length)->Q b s->KatLex prog w A true iC Q (its.zip g) i s
 |[],ys,_,g,i,.nil,O,h,hf,q=>by
  rw[List.zip_nil_left];refine kat_nil ?_;cases ys with
  |nil=>simp[bo]at h;subst h;rw[hf];exact q
  |cons y ys=>simp[bo]at h;subst h;rw[hf];simpa using q
 |x::xs,[],_,_,i,_,.nil,h,hf,q=>by
  rw[List.zip_nil_right];refine kat_nil ?_;simp[bo]at h;subst h;rw[hf];simpa using q
 |.i a::xs,.i c::ys,_,_,i,.cons T G,.cons O M,h,hf,q=>by
  obtain⟨t,rfl⟩:=T;obtain⟨u,rfl⟩:=O;rw[zip_cons_cons];refine kat_cons (wpAny_eqBool_int ?_);rw[bo]at h;by_cases e:a=c
  ·rw[if_pos e]at h;rw[show(a == c)=true by simp[e]];exact kat_yes (qe xs ys _ _ (i+1) G M h (by rw[hf];simp) q)
  ·rw[if_neg e]at h;cases h
   rw[show(a == c)=false by simp[e]];refine kat_no ?_;cases hb:(true && i == 0) with
   |true=>exact oneLt_int q
   |false=>exact kat_one _ _ (PyProof.Rows.lt_int q)
 |.s a::xs,.s c::ys,_,_,i,.cons T G,.cons O M,h,hf,q=>by
  obtain⟨t,rfl⟩:=T;obtain⟨u,rfl⟩:=O;rw[zip_cons_cons];refine kat_cons (wpAny_eqBool_str ?_);rw[bo]at h;by_cases e:a=c
  ·rw[if_pos e]at h;rw[decide_eq_true e];exact kat_yes (qe xs ys _ _ (i+1) G M h (by rw[hf];simp) q)
  ·rw[if_neg e]at h;cases h
   rw[decide_eq_false e];refine kat_no ?_;cases hb:(true && i == 0) with
   |true=>exact oneLt_str q
   |false=>exact kat_one _ _ (PySem.P.lt_str q)
 |.i _::_,.s _::_,_,_,_,_,_,h,_,_=>by simp[bo]at h
 |.s _::_,.i _::_,_,_,_,_,_,h,_,_=>by simp[bo]at h
theorem fg {α M:Type}{F:α->M->Prop}:∀ {g:List α}{G:List M},Paired F g G->g.length=G.length
 |_,_,.nil=>rfl
 |_,_,.cons _ t=>by simp[fg t]
def L0 {Q:Bool->Shared->Prop}{xs ys:List At}{x y:Value}{b:Bool}(hx:fz s.heap xs x)(hy:fz s.heap ys y)(h:bo xs ys=some b)(q:Q b s):wpAny (model prog w) A (keyLt' (tuples' true) x y) Q E s:=by
 obtain⟨a,o,its,n,rfl,O,_,hd,r⟩:=hx;obtain⟨T,o',its',U,rfl,g,_,G,M⟩:=hy;refine kat_lt O hd g G (qe xs ys _ _ 0 r M h ?_ q);rw[←vG,←vG,fg r,fg M]
theorem oq:∀ {ks:List (List At)}{vs:LU},Paired (fz h) ks vs->(∀k∈ks,k≠[])->∃fs,KatTups h vs fs/\fs.length=ks.length/\∀v∈fs,∃k r,(k::r)∈ks/\zq k v
 |_,_,.nil,_=>⟨[],trivial,rfl,by simp⟩
 |k::ks,_,.cons x t,g=>by
  obtain⟨fs,h1,h2,h3⟩:=oq t λz hz=>g z (mZ _ hz);obtain⟨a,o,its,n,rfl,O,hc,hd,r⟩:=x;cases G:its.toList with
  |nil=>
   rw[G]at r;cases r
   exact absurd rfl (g [] (mX ..))
  |cons v vs=>
   rw[G]at r;obtain⟨p,M⟩:∃p,its[0]? = some v:=⟨(),by rw[←getElem?_toList,G];rfl⟩;cases r with
   |cons q qs=>
    rename_i k0 T;refine⟨v::fs,KatTups.cons O hc hd M h1,by simp[h2],λu hu=>?_⟩;rcases vP hu with rfl|hu
    ·exact⟨k0,T,mX ..,q⟩
    ·obtain⟨k1,M,U,m2⟩:=h3 u hu;exact⟨k1,M,mZ _ U,m2⟩
def xZ (hp:Paired (fz s.heap) ks vs)(hf:dr ks=true)(hn:0<ks.length)(q:Q (tuples' true) s):wpAny (model prog w) A (keyKind' vs.toArray) Q E s:=by
 have g:∀k∈ks,k≠[]:=λk hk z=>by
  subst z;unfold dr at hf;rw[or_eq_true]at hf;rcases hf with hf|hf
  ·have:=uR hf [] hk;simp at this
  ·have:=uR hf [] hk;simp at this
 obtain⟨fs,h1,h2,h3⟩:=oq hp g;unfold dr at hf;rw[or_eq_true]at hf;rcases hf with hf|hf
 ·refine kat_kind (T:=.type "int") h1 (by omega) (λv hv=>?_) (by decide) q;obtain⟨k,r,m,z⟩:=h3 v hv;have:=uR hf _ m;cases k with
  |i n=>obtain⟨t,rfl⟩:=z;exact .now
  |s G=>simp at this
 ·refine kat_kind (T:=.type "str") h1 (by omega) (λv hv=>?_) (by decide) q;obtain⟨k,r,m,z⟩:=h3 v hv;have:=uR hf _ m;cases k with
  |s G=>obtain⟨t,rfl⟩:=z;exact .now
  |i n=>simp at this
end
section
variable {prog:Program}{w:World}{A:Around}{E:QV}{s:Shared}
theorem fh {α M:Type}{F:α->M->Prop}(d:α)(e:M):∀ {g:List α}{G:List M},Paired F g G->∀ {i:Nat},i<g.length->F (g.getD i d) (G.getD i e)
 |_,_,.cons r t,0,_=>r
 |_,_,.cons r t,i+1,h=>by
  simp only[getD_cons_succ];exact fh d e t (by simpa using h)
 |_,_,.nil,i,h=>by simp at h
def zt (ks:List (List At))(i:Nat):Int:=mq (ks.map c7) (c7 (ks.getD i []))
def Bj {ks:List (List At)}{vs:LU}(hc:dc ks=true)(hp:Paired (fz s.heap) ks vs):∀(i j:Nat)(C:Bool->Shared->Prop)(s1:Shared),i<ks.length->j<ks.length->s1=s->(∀s',s'=s->C (qc (zt ks) i j) s')->kas_ask prog w A (tuples' true) vs i j C s1:=by
 intro i j C s1 hi hj e G;subst e;unfold kas_ask;have g:ks.getD i []∈ks:=by rw[vF,vU hi];exact getElem_mem hi
 have M:ks.getD j []∈ks:=by rw[vF,vU hj];exact getElem_mem hj
 refine L0 (fh [] Value.none hp hi) (fh [] Value.none hp hj) (gX hc g M) ?_;have:=G s1 rfl;unfold qc zt at this;rw[xY (uS ⟨_,g,rfl⟩)]at this;exact this
def CV (U:s.heap.get? a=some (seqObj "list" vs.toArray n))(hk:Paired (fz s.heap) ks vs)(hc:dc ks=true)(hf:dr ks=true)(Kb:vs.length<64)
  (h:∀p:Array Nat,mU vs.length p->Up (zt ks) p vs.length->P (.done (.ret .none)) { s with heap:=sortedHeap s.heap a vs (List.toArray (p.toList.map λi=>vs.getD i Value.none)) }):
  wpAny (model prog w) A (Builtin.«list.sort» ⟨[.ref a],[]⟩) P E s:=by
 have ha:=vX U;have jP:ks.length=vs.length:=fg hk;obtain⟨e1,Je⟩:∃e1,(s.heap.update a (Obj.mapSeq λ_=>#[])).get? a=some (seqObj "list" #[] e1):=⟨_,get?_update_seq U (λ_=>#[])⟩;let g:Heap:=((s.heap.update a (Obj.mapSeq λ_=>#[])).push (seqObj "tuple" vs.toArray 0)).push (seqObj "list" #[] 0);have VO:∀b u,b≠a->s.heap.get? b=some u->g.get? b=some u:=λb u hb q=>
  vZ _ (vZ _ ((Heap.get?_update_ne _ _ _ _ hb).trans q))
 have T1:g.get? a=some (seqObj "list" #[] e1):=vZ _ (vZ _ Je);have T2:Paired (fz g) ks vs:=L2.Paired.mapP hk λk v x=>x.keep λb u Gy q=>VO b u (λz=>by
  subst z;rw[U]at q;cases q;injection Gy with z;exact absurd z (by decide)) q
 rw[list_sort_plain];refine wX (listItems_at U rfl (wX (listUpdate_at U rfl (wX (seqEpoch_at Je rfl (wX (wpAny_newTuple (wX (wpAny_newList (wpAny_holding ?_))) (by show vs.length<=sizeLine;rw[sizeLine_eq];omega))))))));show wpAny (model prog w) A _ P E { s with heap:=g };dsimp only;have T:∀(st:SortSt)(p:Array Nat),arrOf st=p.map (kas_item (vs.toArray.zip vs.toArray))->failedOf st=none->mU vs.length p->Up (zt ks) p vs.length ->
   wpAny (model prog w) A (do
    let M:=(←seqEpoch a) != e1
    Builtin.List.listUpdate (.ref a) λ_=>(arrOf st).map (·.2)
    if let some e:=failedOf st then rule "list.sort.comparison-raised";throw e
    if M then rule "list.sort.modified";raiseError "ValueError" "list modified during sort"
    ret .none) P E { s with heap:=g }:=λst p ea ef ap up=>by
  have eo:(arrOf st).map (·.2)=List.toArray (p.toList.map λi=>vs.getD i Value.none):=kat_snds rfl ea;refine wX (seqEpoch_at T1 rfl ?_);refine wX (listUpdate_at T1 rfl ?_ (hsz2:=by rw[eo];simp only[vH,vI,vG,ap.size,sizeLine_eq];omega));rw[ef];simp only[bne_self_eq_false,uV,if_false];rw[eo];exact wY (h p ap up)
 by_cases h2:vs.toArray.size<2
 ·rw[if_pos h2,if_pos h2];refine wX (wY ?_);rw[StateT.run_pure];refine wX (wY ?_);have Rt:vs.length<2:=by simpa using h2
  refine T _ (List.toArray (List.range vs.length)) ?_ rfl ⟨by simp,by simp⟩ ?_
  ·show vs.toArray.zip vs.toArray=_;have:=kas_range (vs.toArray.zip vs.toArray);rw[show(vs.toArray.zip vs.toArray).size=vs.length by simp]at this;exact this.symm
  ·intro i j hij hj;have:i=j:=by omega
   subst this;exact le_refl _
 ·rw[if_neg h2,if_neg h2];have MH:2<=vs.length:=by simp at h2;omega
  refine wX (xZ (s:={ s with heap:=g }) T2 hf (by omega) ?_);obtain⟨p,r1,r2,r3⟩:=xX (n:=vs.length) (rk:=zt ks) (by omega);refine wX (wpAny_mono (kat_run (E:=E) (ks:=vs) (vs:=vs) (κ:=tuples' true) (s:={ s with heap:=g }) (Q:=λO s'=>s'={ s with heap:=g }/\arrOf O=p.map (kas_item (vs.toArray.zip vs.toArray))/\failedOf O=none)
   (G:=λp' s'=>p'=p/\s'={ s with heap:=g }) rfl MH Kb (λp' O s' _ e2 e3 e4=>by
    obtain⟨rfl,rfl⟩:=e4;exact⟨rfl,e2,e3⟩) (Run.wp (λs'=>s'={ s with heap:=g }) (λi j C s1 hi hj e hC=>Bj (s:={ s with heap:=g }) hc T2 i j C s1 (by omega) (by omega) e hC) r1 rfl λs' e=>⟨rfl,e⟩)) (λr s' hr=>?_) λ_ _ z=>z)
  obtain⟨⟨⟩,O⟩:=r;obtain⟨rfl,e2,e3⟩:=hr;exact T O p e2 e3 r2 r3
def ya (hl:s.heap.IsList l vs.toArray)(hk:Paired (fz s.heap) ks vs)(hc:dc ks=true)(hf:dr ks=true)(G:vs.length<64)
  (h:∀p:Array Nat,mU vs.length p->Up (zt ks) p vs.length->Q (.ref (s.heap.objs.size+1)) { s with heap:=sortedAll s.heap vs (List.toArray (p.toList.map λi=>vs.getD i Value.none)) }):
  wpAny (model prog w) A (call (.builtin "sorted") [.ref l]) Q E s:=by
 let h1:Heap:=(s.heap.push (seqObj "list" #[] 0)).update s.heap.objs.size (Obj.mapSeq (· ++ vs.toArray));have hsz:h1.objs.size=s.heap.objs.size+1:=by show(Heap.update _ _ _).objs.size=_;rw[Heap.size_update,size_push']
 let h2:Heap:=h1.push (seqObj "list" vs.toArray 0);have g:h2.get? (s.heap.objs.size+1)=some (seqObj "list" vs.toArray 0):=by rw[←hsz];exact vY _ rfl
 have M:Paired (fz h2) ks vs:=L2.Paired.mapP hk λk v x=>x.keep λb u _ q=>
  vZ _ ((Heap.get?_update_ne _ _ _ _ (vS (vX q))).trans (vZ _ q))
 refine Calls.call_function_entry kind_sorted plain_sorted entry_sorted (args_sorted1 _) ?_;unfold Builtin.«sorted»;refine wX (m:=checkCount "sorted" 1 1 _) (wY (wX (collect_list hl (wX (wpAny_newList ?_)))));show wpAny _ _ _ _ _ { s with heap:=h2 };rw[show((s.heap.push (seqObj "list" #[] 0)).update s.heap.objs.size (Obj.mapSeq (· ++ vs.toArray))).objs.size=s.heap.objs.size+1 from hsz];exact wX (wpAny_holding (wpAny_call_entry slot_list_sort ⟨_,g,rfl⟩ entry_list_sort (CV g M hc hf G λp O T=>⟨_,rfl,wY ⟨_,rfl,h p O T⟩⟩) (args_list_sort _)))
end
end DL
namespace DL
open PySem PySem.Spec PySem.W PyProof.Rows L2
noncomputable def tL:D->Option At
 |.int n=>some (.i n)
 |.str z=>some (.s z)
 |_=>none
def fK:LD->Option (List At)
 |[]=>some []
 |d::ds=>(tL d).bind λa=>(fK ds).map (a :: ·)
def mr:D->Option (List At)
 |.tup es=>fK es
 |_=>none
def de:LD->Option (List (List At))
 |[]=>some []
 |d::ds=>(mr d).bind λa=>(de ds).map (a :: ·)
def EC (d:D):LI:=c7 ((mr d).getD [])
noncomputable def kg:LD->Option LI
 |[]=>some []
 |.int n::ds=>(kg ds).map (n :: ·)
 |_::_=>none
def df (ns:LI):LI:=eP (λn=>[n]) ns
def gk:LD->OB
 |[.lst ds]=>match gy ds with
  |some g=>if g.length<64 then some (.lst ((jM g).map .str),true)else none
  |none=>match kg ds with
   |some ns=>if ns.length<64 then some (.lst ((df ns).map .int),true)else none
   |none=>match de ds with
    |some ks=>if ks.length<64/\dc ks=true/\dr ks=true then some (.lst (eP EC ds),true)else none
    |none=>none
 |_=>none
def CW (h:tL d=some a)(k:tL e=some a):d=e:=by
 cases d<;>simp only[tL]at h<;>cases h<;>cases e<;>simp only[tL]at k<;>cases k<;>rfl
theorem qg:∀ {ds es:LD}{g:List At},fK ds=some g->fK es=some g->ds=es
 |[],[],_,_,_=>rfl
 |[],e::es,g,h,k=>by
  simp only[fK]at h k;cases h
  obtain⟨a,_,k⟩:=oX k;obtain⟨r,_,k⟩:=oY k;cases k
 |d::ds,[],g,h,k=>by
  simp only[fK]at h k;cases k
  obtain⟨a,_,h⟩:=oX h;obtain⟨r,_,h⟩:=oY h;cases h
 |d::ds,e::es,g,h,k=>by
  simp only[fK]at h k;obtain⟨a,h1,h⟩:=oX h;obtain⟨r,h2,h⟩:=oY h;obtain⟨O,k1,k⟩:=oX k;obtain⟨T,k2,k⟩:=oY k;subst h;injection k with G M;subst G;subst M;rw[CW h1 k1,qg h2 k2]
def ED (h:mr d=some k)(h':mr e=some k):d=e:=by
 cases d<;>simp only[mr]at h<;>try (cases h;done)
 cases e<;>simp only[mr]at h'<;>try (cases h';done)
 rw[qg h h']
theorem fW:∀ {ds:LD}{ks:List (List At)},de ds=some ks->ks.length=ds.length
 |[],_,h=>by simp only[de]at h;cases h;rfl
 |d::ds,_,h=>by
  simp only[de]at h;obtain⟨a,h1,h⟩:=oX h;obtain⟨r,h2,h⟩:=oY h;subst h;simp[fW h2]
theorem jk:∀ {ds:LD}{ks:List (List At)},de ds=some ks->∀ {i:Nat},i<ds.length->mr (ds.getD i .non)=some (ks.getD i [])
 |[],_,h,i,hi=>by simp at hi
 |d::ds,_,h,0,hi=>by
  simp only[de]at h;obtain⟨a,h1,h⟩:=oX h;obtain⟨r,h2,h⟩:=oY h;subst h;exact h1
 |d::ds,_,h,i+1,hi=>by
  simp only[de]at h;obtain⟨a,h1,h⟩:=oX h;obtain⟨r,h2,h⟩:=oY h;subst h;simp only[getD_cons_succ];exact jk h2 (by simpa using hi)
def qh {α:Type}(l:List α)(d:α):(List.range l.length).map (λi=>l.getD i d)=l:=by
 apply ext_getElem?;intro i;by_cases h:i<l.length
 ·simp[h]
 ·simp[h]
def zZ (hk:de ds=some ks)(hc:dc ks=true)(M:mU ds.length p)(up:Up (zt ks) p ds.length):p.toList.map (λi=>ds.getD i .non)=eP EC ds:=by
 have mem:∀x∈ds,∃k∈ks,mr x=some k:=λx hx=>by
  obtain⟨i,hi,rfl⟩:=List.mem_iff_getElem.mp hx;have:=jk hk hi;rw[vF,vU hi]at this;refine⟨_,?_,this⟩;have g:i<ks.length:=by rw[fW hk];exact hi
  rw[vF,vU g];exact getElem_mem g
 apply ib EC
 ·intro x hx y hy e;obtain⟨k,mk,ek⟩:=mem x hx;obtain⟨k',O,G⟩:=mem y hy;unfold EC at e;rw[ek,G]at e;have:=kP hc mk O e;subst this;exact ED ek G
 ·have:=M.perm.map (λi=>ds.getD i .non);rw[qh]at this;exact this
 ·rw[List.pairwise_iff_getElem];intro i j hi hj T;have hsz:=M.size;have g:i<p.size:=by simpa using hi
  have U:j<p.size:=by simpa using hj
  have:=up i j (le_of_lt T) (by omega);unfold cr zt at this;have gi:p.getD i 0=p[i]:=by rw[getD_eq_getD_getElem?,getElem?_eq_getElem g];rfl
  have gj:p.getD j 0=p[j]:=by rw[getD_eq_getD_getElem?,getElem?_eq_getElem U];rfl
  have li:=M.lt (k:=i) (by omega);have lj:=M.lt (k:=j) (by omega);have mj:ks.getD (p.getD j 0) []∈ks:=by
   have h':p.getD j 0<ks.length:=by rw[fW hk];exact lj
   rw[vF,vU h'];exact getElem_mem h'
  have nl:¬c7 (ks.getD (p.getD j 0) [])<c7 (ks.getD (p.getD i 0) []):=λz=>by
   have:=wc (cs:=ks.map c7) (uS ⟨_,mj,rfl⟩) z;omega
  simp only[List.getElem_map,getElem_toList];unfold EB EC;rw[←gi,←gj,jk hk li,jk hk lj];exact nl
section
variable {X:Cx}
theorem yc {K:Frag}{B:Hp}:∀ {vs:LV}{es:LD}{k:List At}{its:LU},bc vs its->IsL K B vs es->fK es=some k->Paired zq k its
 |_,_,_,_,.nil,.nil,h=>by simp only[fK]at h;cases h;exact .nil
 |_,_,_,_,.cons r g,.cons i G,h=>by
  simp only[fK]at h;obtain⟨a,h1,h⟩:=oX h;obtain⟨t,h2,h⟩:=oY h;subst h;refine .cons ?_ (yc g G h2);cases i<;>simp only[tL]at h1<;>cases h1
  ·exact r
  ·exact r
theorem ms {ae:AO}{σ:St}{H:Hp}{s:Shared}(I:Inv X ae σ H s):∀ {ys:LV}{ds:LD}{ks:List (List At)}{its:LU},bc ys its->IsL X.K H ys ds->de ds=some ks->Paired (fz s.heap) ks its
 |_,_,_,_,.nil,.nil,h=>by simp only[de]at h;cases h;exact .nil
 |_,_,_,_,.cons r g,.cons i G,h=>by
  simp only[de]at h;obtain⟨a,h1,h⟩:=oX h;obtain⟨t,h2,h⟩:=oY h;subst h;refine .cons ?_ (ms I g G h2);cases i<;>simp only[mr]at h1<;>try (cases h1;done)
  rename_i hq hl;cases r
  obtain⟨its',M,⟨o,O,hc,n,hd⟩,_⟩:=I.tuple hq;exact⟨_,o,_,n,rfl,O,hc,hd,by simpa using yc M hl h1⟩
theorem Bk {K:Frag}{B:Hp}:∀ {vs:LV}{ds:LD},IsL K B vs ds->∀ {i:Nat},i<ds.length->Is K B (vs.getD i .non) (ds.getD i .non)
 |_,_,.cons h _,0,_=>h
 |_,_,.cons _ t,i+1,hi=>by
  simp only[getD_cons_succ];exact Bk t (by simpa using hi)
 |_,_,.nil,i,hi=>by simp at hi
theorem ye:∀ {vs:LV}{us:LU},bc vs us->∀ {i:Nat},i<vs.length->aU (vs.getD i .non) (us.getD i Value.none)
 |_,_,.cons h _,0,_=>h
 |_,_,.cons _ t,i+1,hi=>by
  simp only[getD_cons_succ];exact ye t (by simpa using hi)
 |_,_,.nil,i,hi=>by simp at hi
theorem qi {K:Frag}{B:Hp}{vs:LV}{ds:LD}(h:IsL K B vs ds):∀(l:LN),(∀i∈l,i<ds.length)->IsL K B (l.map λi=>vs.getD i .non) (l.map λi=>ds.getD i .non)
 |[],_=>.nil
 |i::l,hl=>.cons (Bk h (hl i (mX ..))) (qi h l λj hj=>hl j (mZ _ hj))
theorem nD (h:bc vs us):∀(l:LN),(∀i∈l,i<vs.length)->bc (l.map λi=>vs.getD i .non) (l.map λi=>us.getD i Value.none)
 |[],_=>.nil
 |i::l,hl=>.cons (ye h (hl i (mX ..))) (nD h l λj hj=>hl j (mZ _ hj))
end
section
variable {X:Cx}
theorem pe {K:Frag}{B:Hp}:∀ {vs:LV}{ds:LD}{ns:LI}{its:LU},bc vs its->IsL K B vs ds->kg ds=some ns->IntsAre its ns
 |_,_,_,_,.nil,.nil,h=>by simp only[kg]at h;cases h;exact .nil
 |_,_,_,_,.cons r g,.cons i G,h=>by
  cases i<;>simp only[kg]at h<;>try (cases h;done)
  obtain⟨t,h2,h⟩:=oY h;subst h;obtain⟨u,rfl⟩:=r;exact .cons _ u (pe g G h2)
theorem fT:∀ {its:LU}{zs:LI},IntsAre its zs->bc (zs.map V.int) its
 |_,_,.nil=>.nil
 |_,_,.cons x t r=>.cons ⟨t,rfl⟩ (fT r)
theorem kh {K:Frag}{N:Hp}:∀(zs:LI),IsL K N (zs.map V.int) (zs.map D.int)
 |[]=>.nil
 |z::zs=>.cons (.int z) (kh zs)
def qj (p:l'.Perm l)(h:l'.Pairwise (·<=·)):l'=df l:=by
 refine ib _ (λx _ y _ e=>by injection e) p (h.imp λ{a b} hab=>?_);unfold EB;intro z;rw[cons_lt_cons_iff]at z;rcases z with z|⟨_,z⟩
 ·omega
 ·exact lt_irrefl _ z
def lI (I:Inv X ae σ H s)(G:aW B H)(q:Fin X.K B H (.lst ds) true Q)(hv:bc ys out.toList)(hl:IsL X.K B ys ds)(hz:ys.length<=sizeLine):
  EP X ae σ Q (.ref (s.heap.objs.size+1)) { s with heap:=sortedAll s.heap its out }:=by
 obtain⟨e,he⟩:=sortedAll_at s.heap its out;have hp:H (s.heap.objs.size+1)=none:=I.hok.fresh (le_succ _);have g:=Ext.laid (o:=.lst ys) G hp;exact⟨.ref _,_,I.laid (t':=s.toks) (λb o=>sortedAll_old) (le_succ _) (show bO X.prog X.w _ _ _ (.lst ys)from ⟨hz,out.toList,e,hv,he⟩),rfl,
  q _ _ _ g (.lst (gP.of aC) (hl.mono g.bn)) λ_=>⟨_,_,_,rfl,rfl,hp,aC,hl.mono g.bn⟩⟩
def yf:bP X (.builtin "sorted") (AE X.K gk):=by
 intro ae s σ H xs us Q I r h;obtain⟨B,dl,d,bb,M,i,g,q⟩:=h;cases i with
 |nil=>simp[gk]at g
 |cons i1 i2=>
  cases i2 with
  |cons _ _=>cases i1<;>simp[gk]at g
  |nil=>
   cases i1<;>try (simp[gk]at g;done)
   rename_i l0 vs ds h hl;obtain⟨u,rfl,rx⟩:=gK r;cases rx
   obtain⟨its,O,pl,hz⟩:=I.list (M.seq h);have JU:vs.length=its.length:=O.length;have JY:ds.length=vs.length:=hl.length.symm;simp only[gk]at g;split at g
   ·rename_i ss es;split at g
    ·rename_i T;cases g
     have G:=ji O hl es;have VP:its.length=ss.length:=by rw[←G.strs,vI]
     refine sorted_strs pl.isList (by simpa using G) (by omega) λout T0 a1 a2 a3=>?_;have e:=tH a2 a3;subst e;exact lI I M q (nz a1) (pZ _) (by rw[vI,(eY ss).length_eq,sizeLine_eq];omega)
    ·cases g
   ·split at g
    ·rename_i ns es;split at g
     ·rename_i T;cases g
      have G:=pe O hl es;have VP:its.length=ns.length:=IntsAre.length G;refine sorted_ints pl.isList (by simpa using G) (by omega) λout T0 a1 a2 a3=>?_;have e:=qj a2 a3;subst e;exact lI I M q (fT a1) (kh _) (by rw[vI];unfold df;rw[(aR _ ns).length_eq,sizeLine_eq];omega)
     ·cases g
    ·split at g
     ·rename_i ks es;split at g
      ·rename_i hh;obtain⟨T,hc,hf⟩:=hh;cases g
       have Ru:=fW es;have G:=ms I O (hl.mono M) es;refine ya pl.isList (by simpa using G) hc hf (by omega) λp ap up=>?_;have D7:its.length=ds.length:=by omega
       rw[D7]at ap up;have e:=zZ es hc ap up;have U:∀i∈p.toList,i<ds.length:=λi hi=>mem_range.mp (ap.perm.mem_iff.mp hi);have il:=qi hl p.toList U;rw[e]at il;refine lI I M q (ys:=p.toList.map λi=>vs.getD i .non) ?_ il ?_
       ·simpa using nD O p.toList λi hi=>by rw[←JY];exact U i hi
       ·rw[vI,vG,ap.size,sizeLine_eq];omega
      ·cases g
     ·cases g
end
end DL
namespace DL
open PySem PySem.Spec PyProof.Rows L2
section
variable {prog:Program}{w:World}{A:Around}{E:QV}{s:Shared}
def Aa {a:Addr}{o:Obj}{its:AV}{n:Nat}{x:Value}{e:Value->Bool}{j:Nat}{P:PySem.Fin->Shared->Prop}(T:s.heap.get? a=some o)(hd:o.data=.seq its n)
  (he:∀y∈its,MeetsSeq.EqGives y x (e y)) (hj:j<its.size) (A5:e its[j]=true) (G:∀m (hm:m<its.size),m<j->e its[m]=false)
  (h:P (.done (.ret (.int j s.toks))) { s with toks:=s.toks+1 }):wpAny (model prog w) A (Builtin.«tuple.index» ⟨[.ref a,x],[]⟩) P E s:=by
 show wpAny _ _ (Builtin.Tuple.tupleItemsOf (.ref a)>>=_) _ _ s;refine wX (wpAny_tupleItemsOf T hd ?_);dsimp only;refine wX (wY (wX (wY (wX ?_))));rw[Std.Legacy.Range.forIn_eq_forIn_range'];refine wpAny_forIn_list _
  (λaA r s'=>r.1=none/\s'=s/\∃i,i<=j/\aA=List.range' i (its.size - i))
  _ ?_ ?_ _ _ ⟨rfl,rfl,0,uN _,?_⟩
 ·rintro k aA r s' ⟨U,rfl,i,hi,hz⟩;have g:i<its.size:=by omega
  obtain⟨m,hm⟩:∃m,its.size - i=m+1:=⟨its.size - i - 1,by omega⟩;rw[hm,List.range'_succ]at hz;injection hz with M z2;have M:=M.symm;subst M;subst z2;have hg:its[i]? = some its[i]:=by simp[g]
  simp only[hg];refine wX (he _ (Array.getElem_mem g) prog w _ _ _ _ ?_);by_cases O:i=j
  ·subst O;rw[A5];simp only[if_true];refine wX ?_;show wpAny _ _ (mkInt (i:Int)>>=λv=>ret v) _ _ _;exact wX (wpAny_mkInt (wY (wY (wY h))))
  ·rw[G i g (by omega)];simp only[uV,if_false];exact wY ⟨rfl,rfl,i+1,by omega,by rw[show its.size - (i+1)=m by omega]⟩
 ·rintro⟨r1,r2⟩ s' ⟨U,rfl,i,hi,hz⟩;exfalso;have:(List.range' i (its.size - i)).length=0:=by rw[←hz];rfl
  rw[List.length_range']at this;omega
 ·simp
end
theorem CRows.findT {K:Frag}{P:Params}(y:Str){ds:LD}:∀ {es:List DictEntry}{aG:List (Str×D)},CRows K P es aG->aG.lookup y=some (.tup ds) ->
  ∃e a its n oJ,es.find? (λe=>Value.isStrOf y e.key)=some e/\e.val=.ref a/\K.lookup a=some ⟨.type "tuple",none,.seq its n,oJ⟩/\j8 its.toList ds=true
 |_,_,.nil,h=>by simp at h
 |_,_,.tup (x:=x) (t:=t) (a:=a) (ds:=M) hh l f tl,h=>by
  by_cases e:y=x
  ·subst e;rw[lookup_cons_self]at h;cases h
   rw[vC]at f;exact⟨_,a,_,_,_,List.find?_cons_of_pos (by simp[Value.isStrOf]),rfl,l,f.2⟩
  ·rw[lookup_cons,beq_eq_false_iff_ne.mpr e]at h;have g:Value.isStrOf y (Value.str x t)=false:=by
    rw[eq_false_iff];intro z;obtain⟨t',q⟩:=Value.isStrOf_shape z;injection q with G;exact e G.symm
   simp only[find?_cons,g];exact tl.findT y h
 |_,_,.flat (x:=x) (t:=t) (u:=u) (d:=d) hh f tl,h=>by
  by_cases e:y=x
  ·subst e;rw[lookup_cons_self]at h;cases h
   cases u<;>simp[vv]at f
  ·rw[lookup_cons,beq_eq_false_iff_ne.mpr e]at h;have g:Value.isStrOf y (Value.str x t)=false:=by
    rw[eq_false_iff];intro z;obtain⟨t',q⟩:=Value.isStrOf_shape z;injection q with G;exact e G.symm
   simp only[find?_cons,g];exact tl.findT y h
section
variable {X:Cx}{b e:Expr}{pos:Pos}{x:Str}{p:Pos}
def Q6 (K:Frag):V->LV->Hp->VK->Prop:=λx xs H Q=>∃(a:Addr)(o:Obj)(its:AV)(n:Nat)(zs:LS)(y:Str),x=.ref a/\xs=[.str y]/\K.lookup a=some o/\o.cls=.type "tuple"/\o.data=.seq its n/\StrsAre its.toList zs/\zs.findIdx (· == y)<zs.length/\Q (.int (zs.findIdx (· == y):Nat)) H
noncomputable def J0 (y:Str):Value->Bool
 |.str z _=>z == y
 |_=>false
theorem Bl:∀ {its:LU}{zs:LS},StrsAre its zs->∀(i:Nat)(hi:i<its.length),∃(h:i<zs.length)(t:Tok),its[i]=.str zs[i] t
 |_,_,.cons z t h,0,_=>⟨by simp,t,rfl⟩
 |_,_,.cons z t h,i+1,hi=>by
  obtain⟨h',t',e⟩:=Bl h i (by simpa using hi);exact⟨by simpa using h',t',by simpa using e⟩
 |_,_,.nil,i,hi=>by simp at hi
theorem yg:∀ {its:LU}{zs:LS},StrsAre its zs->its.length=zs.length
 |_,_,.nil=>rfl
 |_,_,.cons _ _ h=>by rw[vE,vE,yg h]
def EE:GN X "tuple.index" (Q6 X.K):=by
 intro ae s σ H x xs v us Q I O T h;obtain⟨a,o,its,n,zs,y,rfl,rfl,U,hc,hd,hz,hk,q⟩:=h;cases O
 obtain⟨u,rfl,⟨t,rfl⟩⟩:=T.one;have M:=I.kIn a o U;have hl:=yg hz;rw[vG]at hl;have at':∀(i:Nat)(hi:i<its.size),∃(h:i<zs.length)(t:Tok),its[i]=.str zs[i] t:=λi hi=>by
  obtain⟨h',t',e⟩:=Bl hz i (by simpa using hi);exact⟨h',t',by simpa using e⟩
 refine wpAny_call_entry PySem.F.slot_tuple_index ⟨o,M,hc⟩ PySem.F.entry_tuple_index (Aa (e:=J0 y) (j:=zs.findIdx (· == y)) M hd (λz hm=>?_) (by omega) ?_ (λm hm G=>?_) ⟨_,rfl,.int (zs.findIdx (· == y):Nat),H,I.tok _,⟨_,rfl⟩,q⟩) (PySem.F.args_tuple_index_2 _ _)
 ·obtain⟨i,hi,rfl⟩:=Array.mem_iff_getElem.mp hm;obtain⟨_,t',g⟩:=at' i hi;rw[g];exact eqGives_str _ _ _ _
 ·obtain⟨_,t',g⟩:=at' (zs.findIdx (· == y)) (by omega);rw[g];exact List.findIdx_getElem (p:=(· == y)) (w:=hk)
 ·obtain⟨_,t',g⟩:=at' m hm;rw[g];have:=List.not_of_lt_findIdx (p:=(· == y)) (xs:=zs) G;simpa [J0]using this
@[simp] def oQ (aG:List (Str×D)):D->D->OB
 |.str y,.str z=>match aG.lookup y with
  |some (.tup ds)=>(gy ds).bind λzs=>if zs.findIdx (· == z)<zs.length then some (.int (zs.findIdx (· == z):Nat),false)else none
  |_=>none
 |_,_=>none
def HJ {aG:List (Str×D)}{f g:FE}{cG bR:Pos}(h:∃d,X.mg x=some (.ref d)/\t0 X.K X.w.params d aG)(hb:JE X b f)(he:JE X e g)(hg:Gl X x:=by rfl)(Rv:(x == ("__debug__" : Str))=false:=by decide)(hs:uC b:=by intro _ _;rfl)
  (M:attributeBase (.Subscript (.Name x p) b pos) "index" X.env (eval (.Subscript (.Name x p) b pos) X.env)=eval (.Subscript (.Name x p) b pos) X.env:=by rfl)
  (U:((backTo bR (starEach [e] X.env)).all (λx=>!x.1) && (backToKw bR (keywordEach [] X.env)).all (λx=>x.1.isSome)
   && decide ([e].length+([]:List Keyword).length+(if([]:List Keyword).isEmpty then 0 else 1)<30))=true:=by rfl)
  (O:(cG.endLine == bR.line)=true:=by rfl) (Ka:starEach [e] X.env=[(false,eval e X.env)]:=by rfl):
  JE X (.Call (.Attribute (.Subscript (.Name x p) b pos) "index" cG) [e] [] bR) (f2 (oQ aG) f g):=by
 obtain⟨d,hm,cd⟩:=h;have ix:Gj X (λx y H Q=>∃z ds,x=.ref d/\y=.str z/\aG.lookup z=some (.tup ds)/\∀a its n oJ,X.K.lookup a=some ⟨.type "tuple",none,.seq its n,oJ⟩->j8 its.toList ds=true->Q (.ref a) H):=by
  intro value slice ae s σ H x y v u Q I rx ry q hs;obtain⟨z,ds,rfl,rfl,el,q⟩:=q;cases rx
  obtain⟨t,rfl⟩:=ry;obtain⟨es,n,l,r,sm⟩:=cd;have hM:=PySem.W.mapOf_K (prog:=X.prog) (w:=X.w) I.kIn l r.lit;obtain⟨en,a,its,n',oJ,e1,e2,e3,e4⟩:=r.findT z el;have ff:findBy Value.isStrOf es z=some (.ref a):=by
   unfold findBy;obtain⟨es⟩:=es;rw[List.find?_toArray,e1,←e2];rfl
  exact tail_any hM.typeIs slot_dict_getitem.lookup (wpAny_getItem_of (strKind_is X.prog X.w z t) hM ff ⟨.ref a,H,I.tok _,rfl,q a _ _ _ e3 e4⟩) hs
 refine PE.to (xg (T:="tuple") PySem.F.plainAttrs_tuple PySem.F.slot_tuple_index PySem.F.type_tuple_index EE (Jn ix (A6 (v:=.ref d) hg hm rfl Rv) hb hs) (ee he gE Ka) M U O Ka rfl) λσ H Q q=>?_;obtain⟨B,ρ,d',bb,sB,r,G,q⟩:=q;obtain⟨x1,ex,G⟩:=oX G;obtain⟨y1,ey,G⟩:=oX G;obtain⟨xd,xb⟩:=x1;obtain⟨yd,yb⟩:=y1;cases xd with
 |str z=>
  cases yd with
  |str y=>
   refine⟨B,ρ,_,xb,sB,r,ex,λv H1 N1 xt i1 _=>?_⟩;cases i1
   simp only[oQ]at G;split at G
   ·rename_i ds el;obtain⟨zs,ez,G⟩:=oX G;split at G
    ·rename_i hk;cases G
     refine⟨z,ds,rfl,rfl,el,λa its n oJ l fl=>⟨.inr (.inl ⟨rfl,_,l,rfl,rfl⟩),N1,ρ,_,yb,xt.nh,r.mono xt.bn,ey,λv2 H2 N2 ON i2 _=>?_⟩⟩;cases i2
     obtain⟨vs,rv,iv⟩:=j9 (K:=X.K) fl;exact⟨a,_,its,n,zs,y,rfl,rfl,l,rfl,rfl,ji rv (iv N2) ez,hk,(q.into (xt.trans ON)).one ON.nh (.int _)⟩
    ·cases G
   ·cases G
  |_=>simp[oQ]at G
 |_=>simp[oQ]at G
end
open PySem.W (tabIn tabObj CodeHd kla_fn kla_obj kla_eval kla_makeFunction kla_makeFunctionHit kla_callFunE kla_codeExpr envX)
def NZ (K:Frag)(c P:Addr):Prop:=∃o vs G T g tg O M U,K.lookup c=some o/\o.cls=.type "code"/\o.data=.fields vs/\vs[11]? = some (.ref P)/\vs.getD 11 .none=.ref P/\vs.getD 18 .none=.str G T /\
 vs.getD 7 .none=.int g tg/\vs.getD 9 .none=.bool O/\vs.getD 10 .none=.int M U/\c≠P
def Ab (K:Frag)(x:Str):Prop:=∃c P,tabIn K x=some (c,P)/\NZ K c P
def EF (H:Hp)(f:Addr)(q:Str)(params:Arguments)(g:Expr)(scope:Scope)(cl:List (Str×Addr)):Prop :=
 ∃pm c G u oc M vs t,H f=some (.frz (kla_obj "<lambda>" q params g scope cl pm c G) u)/\H c=some (.frz oc M)/\oc.data=.fields vs/\vs[1]? = some (.str q t)
def EF.mono (h:EF H f q params body scope cl)(e:aW H H'):EF H' f q params body scope cl :=
 let ⟨pm,c,g,u,oc,G,vs,t,h1,h2,h3,h4⟩:=h;⟨pm,c,g,u,oc,G,vs,t,e _ _ h1,e _ _ h2,h3,h4⟩
def lam_mk {K:Frag}{x:Str}{f c P:Addr}{oc:Value}{od VQ:Option Addr}{oJ O:Array (Option Value)}{fd:FuncData}{vs:AV}{G:Str}{tf tg tt:Tok}{g M:Int}{T:Bool}(e1:nsIn K mainGlobals x=some (some (.ref f)))(e2:K.lookup f=some ⟨oc,od,.func fd,oJ⟩)
  (e3:fd.code=.ref c) (e4:K.lookup c=some ⟨.type "code",VQ,.fields vs,O⟩) (e5:vs[11]? = some (.ref P)) (e6:vs.getD 11 .none=.ref P) (e7:vs.getD 18 .none=.str G tf) (e8:vs.getD 7 .none=.int g tg) (e9:vs.getD 9 .none=.bool T) (VR:vs.getD 10 .none=.int M tt) (U:(c == P)=false):Ab K x :=
 ⟨c,P,tab_yes e1 e2 e3 e4 e5,_,vs,G,tf,g,tg,T,M,tt,e4,rfl,rfl,e5,e6,e7,e8,e9,VR,λz=>by rw[z]at U;simp at U⟩
def Ac (l:LU)(h:TriplesOk l)(e:codeAmong pos (l++[rawInt a,rawInt b,c])=some cv):codeAmong pos l=some cv∨cv=c:=by
 fun_induction TriplesOk l with
 |case1=>
  simp only[nil_append,rawInt,codeAmong]at e;split at e
  ·cases e;exact .inr rfl
  ·cases e
 |case2 G t b' u x aA g=>
  simp only[cons_append,codeAmong]at e ⊢;split at e
  ·rename_i hc;rw[if_pos hc];exact .inl e
  ·rename_i hc;rw[if_neg hc];exact g h e
 |case3 l h1 h2=>exact h.elim
section
variable {X:Cx}{ae:AO}{σ:St}{H:Hp}{s:Shared}
def EG 
  (hx:x∈lZ) (L:Ab X.K x) (hc:∀c P,tabIn X.K x=some (c,P)->X.env.code=.ref c) (hq:X.env.qual ++ "<lambda>" = pK x) (Rw:defaultsOf params X.env=([],[])) (Gy:closureFor scope X.env=pure cl)
  (I:Inv X ae σ H s) (tb:Tb X.K H) (k:∀f H' s',Inv X ae σ H' s'->aW H H'->EF H' f (pK x) params body scope cl->Q (.ref f) s'):
  wq X (eval (.Lambda params body scope pos) X.env) Q E s:=by
 refine kla_eval Rw ?_;rw[hq];obtain⟨c,P,ht,o,vs,Rx,tf,U,tg,VS,Ry,tt,lk,ck⟩:=L;have G:=hc c P ht;have hP:=tb x hx c P ht;obtain⟨ps,e,tr,co⟩:=I.hok P _ hP;have C:CodeHd s.heap c P:=⟨o,vs,Rx,tf,U,tg,VS,Ry,tt,I.kIn c o lk,ck⟩;have hg:s.heap.Ns mainGlobals X.mg:=I.mod.glob.keeps I.bk;have nP:∀b,H b=none->b≠P:=λb n z=>by rw[z,hP]at n;cases n
 have VT:mainGlobals≠P:=by
  obtain⟨og,_,_,eg,_⟩:=I.mod.glob;exact nP _ (I.bs _ _ eg).2
 have hb:s.heap.BuiltinsAt X.mg P:=by
  obtain⟨bm,ob,b1,b2,b3,b4,b5,b6⟩:=I.mod.bmain;refine⟨bm,ob,b1,b2,λz=>?_,nP _ (I.bs _ _ b3).2,I.bk _ _ b3,b4,b5,b6⟩;obtain⟨og,es,ep,eg,dg,_⟩:=I.mod.glob;rw[z,eg]at b3;cases b3;rw[dg]at b6;cases b6
 cases hf:codeAmong pos ps.toList with
 |some cv=>
  obtain⟨g,oc,u,ws,t,rfl,hH,hd,hv⟩:=co pos cv hf;refine kla_makeFunctionHit (mg:=X.mg) Gy I.ok.glob hg G C e tr hf hb λM h' tk hk hsz=>?_;have hn:H h'.objs.size=none:=I.hok.fresh hsz;have O:aW H (upd H h'.objs.size (.frz (kla_obj "<lambda>" (pK x) params body scope cl ((X.mg "__name__").getD .none) g M) (.own h'.objs.size))):=λb u q=>by rw[aJ (bd q hn)];exact q
  refine k _ _ _ (I.laid (t':=tk) (λb u q=>vZ _ (hk b u q)) hsz (show bO X.prog X.w _ _ _ (.frz _ (.own h'.objs.size))from ⟨vY _ rfl,_,vY _ rfl⟩)) O ?_;exact⟨_,g,M,_,oc,u,ws,t,aC,O _ _ hH,hd,hv⟩
 |none=>
  refine kla_makeFunction (mg:=X.mg) Gy I.ok.glob hg G C e tr hf VT hb λg M h' tk hx' hge Cn hrec Rz=>?_;obtain⟨c2,oc,ws,t,e2,IZ,hd,hv⟩:=hrec;cases e2
  have OX:H g=none:=I.hok.fresh hge;have hsz:s.heap.objs.size<=h'.objs.size:=vR hge (le_of_lt Cn);have VU:H h'.objs.size=none:=I.hok.fresh hsz;have VV:g≠h'.objs.size:=vS Cn;let fo:Obj:=kla_obj "<lambda>" (pK x) params body scope cl ((X.mg "__name__").getD .none) g M;let H1:Hp:=upd (upd H g (.frz oc (.own g))) h'.objs.size (.frz fo (.own h'.objs.size));have O:aW H H1:=λb u q=>by
   show upd _ _ _ b=_;rw[aJ (bd q VU),aJ (bd q OX)];exact q
  have R0:H1 g=some (.frz oc (.own g)):=by show upd _ _ _ g=_;rw[aJ VV,aC]
  have keep:∀b u,b≠P->s.heap.get? b=some u->(h'.push fo).get? b=some u:=λb u n q=>vZ _ (hx' b u n q);have lt:∀b u,s.heap.get? b=some u->b≠g/\b≠h'.objs.size:=λb u q=>⟨vS (vQ (vX q) hge),vS (vQ (vX q) hsz)⟩;have T:(h'.push fo).get? P=some (tabObj (ps++#[rawInt pos.line,rawInt pos.col,.ref g])):=vZ _ Rz;refine k _ H1 _ (I.un (t':=tk) (h':=h'.push fo) ⟨λb u q n _ _=>keep b u (nP b n) q,λb u q n _ _=>⟨u.slots,keep b u (nP b n) q⟩,λb u q n _=>?_,λb u q _=>?_,λb xs q=>O _ _ q,λb ob u q=>O _ _ q,λb u q=>O _ _ q⟩ λb u q=>?_) O ⟨_,g,M,_,oc,_,ws,t,aC,R0,hd,hv⟩
  ·show upd _ _ _ b=_;rw[aJ (lt b u q).2,aJ (lt b u q).1];exact n
  ·by_cases z:b=P
   ·subst z;exact⟨_,T⟩
   ·exact⟨u,keep b u z q⟩
  ·by_cases z1:b=h'.objs.size
   ·subst z1;have q':some (HO.frz fo (.own h'.objs.size))=some u:=by rw[←q];exact aC.symm
    cases q'
    exact⟨vY _ rfl,_,vY _ rfl⟩
   ·by_cases z2:b=g
    ·subst z2;rw[R0]at q;cases q;exact⟨vZ _ IZ,_,vZ _ IZ⟩
    ·have q':H b=some u:=by
      have:H1 b=H b:=by show upd _ _ _ b=_;rw[aJ z1,aJ z2]
      rw[←this];exact q
     by_cases z3:b=P
     ·subst z3;rw[hP]at q';cases q';refine⟨_,T,?_,λGe cv' ea=>?_⟩
      ·rw[Array.toList_append];exact TriplesOk_snoc _ _ _ _ tr
      ·rw[Array.toList_append]at ea;rcases Ac _ tr ea with ea|rfl
       ·obtain⟨c3,VW,u3,VX,t3,y1,y2,y3⟩:=co Ge cv' ea;exact⟨c3,VW,u3,VX,t3,y1,O _ _ y2,y3⟩
       ·exact⟨g,oc,_,ws,t,rfl,R0,hd,hv⟩
     ·refine(I.hok b u q').stay (λd v R1 r=>keep d v ?_ r) (λd r=>O _ _ r) (λd xs r=>O _ _ r) λd ob v r=>O _ _ r;rcases R1 with rfl|r
      ·exact z3
      ·intro z;rw[z,hP]at r;cases r
end
section
variable {P:Program}{w:World}{K:Frag}{mg:SV}{base:Heap}
def du.fnL {x:Str}{st:Stmt}{N ps:LS}{k:Nat}{g:FS}{h:Heap}(F:du K x st)(X:K.In h)(G:h.Ns mainGlobals mg)(S:FnScope N ps (aQ st))
  (O:∀(kV doc pm:Value)(an:Option Addr)(eN ct:Value)(us:LU),us.length=ps.length->bindArgs (fnOf x x (gg st) (cD st) (aQ st) .none kV doc pm an eN ct) ⟨us,[]⟩=pure (ps.zip us))
  (hb:∀(f:Addr)(eN:Value)(A:Around)(outer:List PySem.Env)(s:Shared)(H:Hp)(E:XK),(∀c P,tabIn K x=some (c,P)->eN=.ref c)->eW k (A.deeper (envOfC x (aQ st) s.heap.objs.size f eN))->wQ (oK zl P w K mg base N x (aQ st) f eN A outer s H E).nox (cD st) g):
  Fn P w K mg base (k+1) x (aL g ps.length (N.length - ps.length)):=by
 obtain⟨f,fd,T,a⟩:=F;have F2:=T;obtain⟨oc,od,kV,doc,pm,an,eN,ct,oJ,rfl,lk,U⟩:=F2.ex;have hc:∀c P,tabIn K x=some (c,P)->eN=.ref c:=λc P e=>by
  unfold tabIn at e;simp only[a,lk]at e;split at e
  ·rename_i c' _;split at e
   ·split at e
    ·cases e;rfl
    ·cases e
   ·cases e
  ·cases e
 have len:∀vs H Q E,Hq K (aL g ps.length (N.length - ps.length)) vs H Q E->vs.length=ps.length:=λvs H Q E h=>by
  obtain⟨B,ds,d,b,sB,i,e,q⟩:=h;unfold aL at e;split at e
  ·rename_i hl;rw[i.length];exact hl
  ·cases e
 refine⟨f,_,ps,Jm lk U S len λA outer s H vs Q E hr h=>⟨_,u0.nox (hb f eN A outer s H E hc hr),?_⟩,mg_of X G a,T.kp,T.binds O⟩;have M:=len vs H Q E h;obtain⟨B,ds,d,b,sB,i,e,q⟩:=h;unfold aL at e;rw[if_pos (by rw[←i.length];exact M)]at e;have s0:=xr (N:=N) sB.1 sB.2 i;rw[M]at s0;split at e
 ·rename_i d' b' eg;cases e
  exact⟨B,H,_,_,⟨B,s0⟩,eg,λv H' N' x' i' f'=>q v H' N' x' i' f'⟩
 ·rename_i ρ' eg;cases e
  exact⟨B,H,_,_,⟨B,s0⟩,eg,λσ' H' ⟨N',s'⟩=>q .non H' N' s'.ext .non (by simp)⟩
 ·cases e
end
inductive ly (X:Cx)(N':List Str)(scope:Scope)(cl:List (Str×Addr)):Nat->List Nat->Prop where
 |nil {j:Nat}(h:N'.length=j):ly X N' scope cl j []
 |cons {j i:Nat}{r:List Nat}{x:Str}(h1:N'[j]? = some x) (h2:X.N[i]? = some x) (h3:X.env.kindOf x=some .cell∨X.env.kindOf x=some .free)
   (h4:scope.names.lookup x=some .free) (h5:cl.lookup x=X.env.cells.lookup x) (t:ly X N' scope cl (j+1) r):ly X N' scope cl j (i::r)
theorem ly.len:∀ {j:Nat}{cap:LN},ly X N' scope cl j cap->N'.length=j+cap.length
 |_,_,.nil h=>by rw[h];rfl
 |j,i::r,.cons _ _ _ _ _ t=>by rw[t.len,vE];omega
theorem ly.get:∀ {j:Nat}{cap:LN}{k i:Nat},ly X N' scope cl j cap->cap[k]? = some i->∃x,N'[j+k]? = some x/\X.N[i]? = some x/\(X.env.kindOf x=some .cell∨X.env.kindOf x=some .free) /\
  scope.names.lookup x=some .free/\cl.lookup x=X.env.cells.lookup x
 |_,_,_,_,.nil _,e=>by simp at e
 |j,_,0,_,.cons h1 h2 h3 h4 h5 _,e=>by simp at e;subst e;exact⟨_,h1,h2,h3,h4,h5⟩
 |j,_,k+1,i,.cons _ _ _ _ _ t,e=>by
  obtain⟨x,q,r⟩:=t.get (k:=k) (i:=i) (by simpa using e);exact⟨x,by rw[show j+(k+1)=j+1+k by omega];exact q,r⟩
noncomputable abbrev yh (X:Cx)(N':LS)(scope:Scope)(cl:List (Str×Addr))(q:Str)(A:Around)(f c:Addr)(s:Shared)(H:Hp):Cx :=
 { X with A:=A.deeper (envX q scope s.heap.objs.size f (.ref c) cl),N:=N',s₀:=s,H₀:=H,env:=envX q scope s.heap.objs.size f (.ref c) cl,outer:=X.stack,stack:=envX q scope s.heap.objs.size f (.ref c) cl::X.stack,ex:=[],fn:=λ_=>false,calm:=true,pn:=[],xe:=λ_ _=>False }
structure LamSc (X:Cx)(scope:Scope)(cl:List (Str×Addr))(y:Str):Prop where
 clos:closureFor scope X.env=pure cl
 nocell:∀z∈scope.names,z.2≠.cell
 kind:scope.kind=.function
 co:scope.isCoroutine=false
 gen:scope.isGenerator=false
 par:scope.names.lookup y=some .local
 sub:∀x c,cl.lookup x=some c->X.env.cells.lookup x=some c
 has:∀x,scope.names.lookup x=some .free->∃c,cl.lookup x=some c
def Bm (h1:∀z∈scope.names,z.2≠.cell)(h2:scope.kind=.function)(h3:scope.isCoroutine=false)(g:scope.isGenerator=false)(hp:scope.names.lookup y=some .local)
  (G:(scope.names.all λz=>!(z.2 == NameKind.free) || (X.env.cells.lookup z.1).isSome)=true):LamSc X scope (dG scope.names X.env.cells []) y:=by
 have h4:∀z∈scope.names,z.2=.free->(X.env.cells.lookup z.1).isSome=true:=λz hz e=>by
  have:=uR G z hz;rw[e]at this;simpa using this
 exact⟨tm scope.names [] h4,h1,h2,h3,g,hp,λx c e=>ma scope.names [] (λy d q=>by cases q) e,λx h=>by
  have:=mf (x:=x) scope.names [] (fU h) (h4 _ (fU h) rfl);exact uU this⟩
section
variable {X:Cx}{ae:AO}{σ:St}{H:Hp}{s:Shared}{A:Around}{N':LS}{scope:Scope}{cl:List (Str×Addr)}{q y:Str}{cap:LN}
def HK (S:LamSc X scope cl y)(N0:N'[0]? = some y)(cp:ly X N' scope cl 1 cap)(I:Inv X ae σ H s)(hA:A.frames=some X.stack)(hh:A.handled=none)(r:aU v u)
  (MI:h₁.Ns s.heap.objs.size (λx=>[(y,u)].reverse.lookup x)) (hk:∀b o,s.heap.get? b=some o->h₁.get? b=some o):
  Inv (yh X N' scope cl q A f c s H) [] (some v::sj 0 cap σ) H { s with heap:=h₁,toks:=tk }:=by
 have G:∀b:Addr,b∉(yh X N' scope cl q A f c s H).ex:=λb z=>absurd (show b∈([]:List Addr)from z) (by simp);refine⟨⟨I.ok.mod,S.kind,rfl,rfl,vT _,λx z d T e2=>I.ok.inj x z d (S.sub _ _ T) (S.sub _ _ e2),λx hx=>?_,(λx d e=>by cases e),λ_=>hh,Around.frames_deeper hA,.inr ⟨rfl,rfl⟩,λb z=>absurd z (G b),I.bs,vR I.ok.bsz I.sz,λb _ _=>G b,λb z=>absurd z (G b),I.stack,I.stkFree⟩,
  rfl,I.bare,Un.kept hk,⟨_,MI,λi x U T e2 e3=>?_⟩,λx d e=>?_,I.hok.fresh (vT _),λx d e=>I.freeC x d (S.sub _ _ e),λp hp=>absurd (show p∈([]:AO)from hp) (by simp),I.hok.kept hk,?_⟩
 ·have hx':scope.names.lookup x=some .cell∨scope.names.lookup x=some .free:=hx;rcases hx' with hx'|hx'
  ·exact absurd rfl (S.nocell _ (fU hx'))
  ·exact S.has x hx'
 ·cases i with
  |zero=>
   have g:N'[0]? = some x:=T;rw[N0]at g;cases g;have M:some v=some U:=by simpa using e2
   cases M
   exact⟨u,r,.inl ⟨S.par,by simp⟩⟩
  |succ k=>
   have M:(sj 0 cap σ)[k]? = some (some U):=by simpa using e2
   obtain⟨k',i',JZ,g1,O⟩:=ve M;have:k=k':=by omega
   subst this;obtain⟨x',n1,n2,n3,n4,n5⟩:=cp.get g1;have:x'=x:=by
    have g:N'[k+1]? = some x:=T;rw[show 1+k=k+1 by omega]at n1;rw[n1]at g;exact vK g
   subst this;have VY:σ[i']? = some (some U):=by
    cases z:σ[i']? with
    |none=>rw[z]at O;cases O
    |some w=>rw[z]at O;cases w with
     |none=>cases O
     |some w=>cases O;rfl
   obtain⟨m,_,hl⟩:=I.loc;obtain⟨u',ru,lk⟩:=hl i' x' U n2 VY (by
    rcases n3 with n3|n3
    ·exact .inr (.inl n3)
    ·exact .inr (.inr n3))
   refine⟨u',ru,.inr ⟨.inr n4,?_⟩⟩;rcases lk with⟨l1,_⟩|⟨_,d,l2,l3⟩
   ·rcases n3 with n3|n3<;>(rw[l1]at n3;cases n3)
   ·obtain⟨ob,ho,hd⟩:=l3;exact⟨d,by show cl.lookup x'=_;rw[n5];exact l2,ob,hk _ _ ho,hd⟩
 ·obtain⟨w,ob,ho,hd⟩:=I.cell x d (S.sub _ _ e);exact⟨w,ob,hk _ _ ho,hd⟩
 ·have:=cp.len;show(some v::sj 0 cap σ).length=N'.length;unfold sj;rw[this];simp;omega
def HL (S:LamSc X scope cl y)(N0:N'[0]? = some y)(cp:ly X N' scope cl 1 cap)(I:Inv X ae σ H s)
  (hA:A.frames=some X.stack) (hh:A.handled=none) (g:A.depth<recursionLimit) (lv:EF H f q params body scope cl)
  (G:∀pm c O u,bindArgs (kla_fn "<lambda>" q params body scope cl pm (.ref c) O) ⟨[u],[]⟩=pure [(y,u)])
  (hb:∀(f c:Addr)(s:Shared)(H:Hp),JE (yh X N' scope cl q A f c s H) body fb)
  (rep:fP X.K B σ ρ) (sB:aW B H) (r:aU v u) (i:Is X.K B v d) (e:fb (some (d,false)::dB 0 cap ρ)=some (d',b')) (qf:Fin X.K B H d' b' Q):
  wpAny (model X.prog X.w) A (call (.ref f) [u]) (EP X ae σ Q) (λ_ _=>False) s:=by
 obtain⟨pm,c,O,uf,oc,u',ws,t,hf,hc,hd,hv⟩:=lv;have ho:=(I.hok f _ hf).1;have IZ:=(I.hok c _ hc).1;refine wpAny_call (codeAny_mono (R:=λr s'=>CR zl X.stack X.prog X.w H s Q (λ_ _ _=>False) r s') ?_ λr s' hq=>?_)
 ·refine kla_callFunE g ho rfl S.co S.gen rfl ⟨c,oc,ws,t,rfl,IZ,hd,hv⟩ ?_;rw[G];refine wY (wpAny_newFunctionEnv S.nocell (λz hz=>by rw[uT hz];exact S.par) (λT MI U=>⟨I.nolimit.fresh _ U,?_⟩) S.kind);have M:∀b o,s.heap.get? b=some o->T.get? b=some o:=λb o e=>U.extBut b o (vS (vX e)) (vZ _ e);have J:=HK (f:=f) (c:=c) (q:=q) (tk:=s.toks+1) S N0 cp I hA hh r MI M;refine kla_codeExpr (wpAny_mono (hb f c s H [] _ _ H Q J ⟨B,_,d',b',sB,⟨rep.tb,λj e0 b0 z=>?_⟩,e,qf⟩) (λw s' hw=>?_) λ_ _ z=>z.elim)
  ·cases j with
   |zero=>
    have z':some (d,false)=some (e0,b0):=by simpa using z
    cases z'
    exact⟨v,rfl,i⟩
   |succ j=>
    obtain⟨w,h1,h2⟩:=(rep.caps (nT:=0) (cap:=cap)).at' j e0 b0 (by simpa using z);exact⟨w,by simpa using h1,h2⟩
  ·obtain⟨v',H',J',rv,qv⟩:=hw;exact⟨v',H',J'.os,J'.bare,J'.base,J'.hok,rv,qv⟩
 ·cases r with
  |error e=>exact False.elim hq
  |ok fl=>
   cases fl with
   |ret w=>exact I.after hq
   |next=>exact False.elim hq
   |brk=>exact False.elim hq
   |cont=>exact False.elim hq
end
end DL
namespace DL
open PySem PySem.Spec PySem.W PyProof.Rows L2
section
variable {X:Cx}{ae:AO}{σ:St}{H:Hp}{s:Shared}{h':Heap}{t':Nat}
def nE (I:Inv X ((p,o)::ae) σ H s):∀x c,X.env.cells.lookup x=some c->c≠p:=λx c e z=>by
 have g:=I.pin (p,o) (mY _ mX);obtain⟨v,ob,G,hd⟩:=I.cell x c e;rw[z,g.1]at G;cases G;exact g.2.2.2.2 v hd
def ki (I:Inv X (p::ae) σ H s):Inv X ae σ H s:=I.pins_of λq hq=>I.pin q (mY _ (mZ _ hq))
def ie (I:Inv X ((p,o)::ae) σ H s)(h0:X.s₀.heap.objs.size<=p)(hp:∀q∈X.pn++ae,q.1≠p)(k:∀b u,b≠p->s.heap.get? b=some u->h'.get? b=some u)(G:h'.get? p=some o')(M:∀v,o'.data≠.cell v):
  Inv X ((p,o')::ae) σ H { s with heap:=h',toks:=t' }:=by
 have g:=I.pin (p,o) (mY _ mX);have J:=(ki I).turned (t':=t') k g.2.1 g.2.2.1 (.inr h0) (nE I) hp;refine J.pins_of λq hq=>?_;rcases vP hq with rfl|hq
 ·exact⟨G,g.2.1,g.2.2.1,g.2.2.2.1,M⟩
 ·exact J.pin q (mY _ hq)
def pf (I:Inv X ae σ H s)(k:∀b u,s.heap.get? b=some u->h'.get? b=some u)(hs:s.heap.objs.size<=p)(g:h'.get? p=some o)(G:∀v,o.data≠.cell v):Inv X ((p,o)::ae) σ H { s with heap:=h',toks:=t' }:=by
 have J:=I.kept (t':=t') k;refine J.pins_of λq hq=>?_;rcases vP hq with rfl|hq
 ·exact⟨g,I.hok.fresh hs,ne_of_gt (vQ I.lt hs),I.nofs hs,G⟩
 ·exact J.pin q (mY _ hq)
def HM (I:Inv X ((p,o)::ae) σ H s)(h0:X.s₀.heap.objs.size<=p)(hp:∀q∈X.pn++ae,q.1≠p)(k:∀b u,b≠p->s.heap.get? b=some u->h'.get? b=some u)(T:∃u,h'.get? p=some u)
  (new:bO X.prog X.w (upd H p ob) h' p ob):Inv X ae σ (upd H p ob) { s with heap:=h',toks:=t' }:=by
 have g:=I.pin (p,o) (mY _ mX);have hn:=g.2.1;have hn:H p=none:=hn;have cs:=nE I;refine(ki I).step (g':=s.gens) (d':=s.drawn) (ch:=[p]) (λb hb=>?_) (λb u _ _ hc e _=>k b u (λz=>hc (by simp[z])) e) (λb u _ _ hc e _=>⟨u.slots,k b u (λz=>hc (by simp[z])) e⟩) (λb u hc _ n=>by rw[aJ (λz=>hc (by simp[z]))];exact n)
  (λb u hc e=>⟨u,k b u (λz=>hc (by simp[z])) e⟩) (λb xs e=>by rw[aJ (bd e hn)];exact e) (λb u w e=>by rw[aJ (bd e hn)];exact e) (λb q e=>by rw[aJ (bd e hn)];exact e) (λm hm=>?_) (λb u e=>?_) I.bare
 ·have z:b=p:=by simpa using hb
  subst z;exact⟨.inr h0,g.2.2.1,cs,hp⟩
 ·obtain⟨G,es,M,O,r⟩:=hm;exact⟨G,es,M,k _ G (λz=>g.2.2.1 z.symm) O,r⟩
 ·by_cases z:b=p
  ·subst z;rw[aC]at e;cases e;exact new
  ·rw[aJ z]at e;refine(I.hok b u e).stay (λc v hc q=>k c v ?_ q) (λc q=>?_) (λc xs q=>?_) λc w xs q=>?_
   ·rcases hc with rfl|hc
    ·exact z
    ·exact bd hc hn
   ·rw[aJ (bd q hn)];exact q
   ·rw[aJ (bd q hn)];exact q
   ·rw[aJ (bd q hn)];exact q
end
def Bn (X:Cx)(A:Around)(σ:St)(g:Value)(B G:Hp)(kf:D->Option D):Prop :=
 ∀(ae:AO)(s:Shared)(H N:Hp)(v:V)(u:Value)(d d':D),Inv X ae σ H s->aW G H->aW B N->aW N H->Is X.K N v d->aU v u->kf d=some d' ->
  wpAny (model X.prog X.w) A (call g [u]) (EP X ae σ λM H'=>∃N',Ext N N' H H'/\Is X.K N' M d') (λ_ _=>False) s
def JK (X:Cx)(A:Around)(e:Expr)(kf:Env->D->Option D):Prop:=∀(ae:AO)(s:Shared)(σ:St)(H B:Hp)(ρ:Env)(Q:QV)(E:QV),Inv X ae σ H s->aW B H->fP X.K B σ ρ ->
 (∀G g s1,Inv X ae σ g s1->aW H g->Bn X A σ (.ref G) B g (kf ρ)->Q (.ref G) s1)->wq X (eval e X.env) Q E s
section
variable {X:Cx}{A:Around}
@[simp] def qk (cap:LN)(g:FE):Env->D->Option D:=λρ d=>(g (some (d,false)::dB 0 cap ρ)).map (·.1)
def wg (hx:x∈lZ)(L:Ab X.K x)(hc:∀c P,tabIn X.K x=some (c,P)->X.env.code=.ref c)(hq:X.env.qual ++ "<lambda>" = pK x)
  (G:defaultsOf params X.env=([],[])) (S:LamSc X scope (dG scope.names X.env.cells []) y) (N0:N'[0]? = some y) (cp:ly X N' scope (dG scope.names X.env.cells []) 1 cap) (hA:A.frames=X.A.frames) (M:eW (k+1) A)
  (g:∀pm c O u,bindArgs (kla_fn "<lambda>" (pK x) params body scope (dG scope.names X.env.cells []) pm (.ref c) O) ⟨[u],[]⟩=pure [(y,u)])
  (hb:∀(f c:Addr)(s:Shared)(H:Hp),eW k (yh X N' scope (dG scope.names X.env.cells []) (pK x) A f c s H).A->JE (yh X N' scope (dG scope.names X.env.cells []) (pK x) A f c s H) body fb):JK X A (.Lambda params body scope pos) (qk cap fb):=by
 intro ae s σ H B ρ Q E I sB rep kk;refine EG hx L hc hq G S.clos I (rep.tb.mono sB) λf H1 s1 I1 sm lv=>kk f H1 s1 I1 sm ?_;intro T s' H' N v u d d' U m1 m2 m3 iv r e;simp only[qk]at e;obtain⟨⟨d2,b2⟩,e1,e2⟩:=oY e;cases e2
 exact HL S N0 cp U (hA.trans U.ok.frames) M.hd M.depth (lv.mono m1) g (λf c s H=>hb f c s H (M.deeper _)) (rep.mono m2) m3 r iv e1 λv' H2 N2 x2 i2 _=>⟨N2,x2,i2⟩
@[simp] noncomputable def sA (g:LD->OB):Env->D->Option D:=λ_ d=>(g [d]).map (·.1)
def Bo (F:Fn X.prog X.w X.K X.mg X.base k x g)(hr:eW k A)(hA:A.frames=X.A.frames)(hg:Gl X x:=by rfl)(M:(x == ("__debug__" : Str))=false:=by decide):JK X A (.Name x p) (sA g):=by
 intro ae s σ H B ρ Q E I sB rep kk;obtain⟨ad,fd,ps,U,hm,hk,hb⟩:=F.ex;refine u5 I hg hm ?_ M;refine kk ad H s I (.refl H) ?_;intro O s' H' N v u d d' T m1 m2 m3 iv r e;simp only[sA]at e;obtain⟨⟨d2,b2⟩,e1,e2⟩:=oY e;cases e2
 have sp:Hq X.K g [v] H' (λv' H2=>∃N',Ext N N' H' H2/\Is X.K N' v' d2) (λ_ _ _=>False):=⟨N,[d],d2,b2,⟨m3,rep.tb.mono m2⟩,.cons iv .nil,e1,λv' H2 N2 x2 i2 _=>⟨N2,x2,i2⟩⟩;have hl:[u].length=ps.length:=by have:=U.len _ _ _ _ sp;simpa using this
 have G:=T.env0;have bb:=hb s' [u] T.kIn (by simpa using hl);rw[uQ]at bb;refine wpAny_call (codeAny_mono (U.run A X.stack s' H' ⟨[u],[]⟩ [u] [v] _ (λ_ _ _=>False) hr ⟨hA.trans G.frames,G.mod,G.bs,G.bsz,G.funs,G.frf,G.hok,G.bare⟩ bb (.cons r .nil) sp) λr s' hq=>?_);cases r with
 |error e=>exact False.elim hq
 |ok fl=>
  cases fl with
  |ret w=>exact T.after hq
  |next=>exact False.elim hq
  |brk=>exact False.elim hq
  |cont=>exact False.elim hq
end
noncomputable def jl (f:D->Option D):LD->Option LD
 |[]=>some []
 |d::ds=>(f d).bind λx=>(jl f ds).map (x :: ·)
theorem kj:∀ {ds ks:LD},jl f ds=some ks->ks.length=ds.length
 |[],_,h=>by simp only[jl]at h;cases h;rfl
 |d::ds,_,h=>by
  simp only[jl]at h;obtain⟨a,h1,h⟩:=oX h;obtain⟨r,h2,h⟩:=oY h;subst h;simp[kj h2]
theorem ql:∀ {ds ks:LD},jl f ds=some ks->∀ {i:Nat}{d:D},ds[i]? = some d->∃k,ks[i]? = some k/\f d=some k
 |[],_,h,i,d,e=>by simp at e
 |d::ds,_,h,0,e,q=>by
  simp only[jl]at h;obtain⟨a,h1,h⟩:=oX h;obtain⟨r,h2,h⟩:=oY h;subst h;simp at q;subst q;exact⟨a,by simp,h1⟩
 |d::ds,_,h,i+1,e,q=>by
  simp only[jl]at h;obtain⟨a,h1,h⟩:=oX h;obtain⟨r,h2,h⟩:=oY h;subst h;obtain⟨k,g,G⟩:=ql h2 (i:=i) (d:=e) (by simpa using q);exact⟨k,by simpa using g,G⟩
structure KK (X:Cx)(A:Around)(kd:List D->Option (List (List At)))(ok:List (List At)->Bool):Prop where
 len:∀ {ds:List D}{ks:List (List At)},kd ds=some ks->ks.length=ds.length
 ask:∀ {ae:List (Addr×Obj)}{σ:St}{H:Hp}{s:Shared}(_:Inv X ae σ H s) {ys:List V}{ds:List D}{ks:List (List At)}{its:List Value},bc ys its->IsL X.K H ys ds->kd ds=some ks->ok ks=true->dc ks=true ->
  (0<ks.length->∀ {E:Value->Shared->Prop}{Q:SortKind->Shared->Prop},Q (tuples' true) s->wpAny (model X.prog X.w) A (keyKind' its.toArray) Q E s) /\
  ∀(i j:Nat)(C:Bool->Shared->Prop)(s1:Shared),i<ks.length->j<ks.length->s1=s->(∀s',s'=s->C (qc (zt ks) i j) s')->kas_ask X.prog X.w A (tuples' true) its i j C s1
def EH:KK X A de dr:=⟨fW,λI _ _ _ _ r i e hf hc=>have hp:=ms I r i e;⟨λhn _ _ q=>xZ hp hf hn q,Bj hc hp⟩⟩
section
variable {X:Cx}{ae:AO}{σ:St}{s:Shared}
theorem tM (r:aU x u):∀ {vs:LV}{us:LU},bc vs us->bc (vs++[x]) (us++[u])
 |_,_,.nil=>.cons r .nil
 |_,_,.cons h t=>.cons h (tM r t)
def dh:∀v,(Obj.mk c od (.seq its n) sl).data≠.cell v:=λv z=>by cases z
def Ad 
  (I:Inv X ((a,seqObj "list" its.toArray n)::ae) σ H s) (h0:X.s₀.heap.objs.size<=a) (hp:∀q∈X.pn++ae,q.1≠a) (Gz:Bn X A σ qv B H kf) (rv:bc vs its) (iv:IsL X.K B vs ds) (sB:aW B H)
  (M:KK X A kd ok) (em:jl kf ds=some j0) (ek:kd j0=some ks) (hc:dc ks=true) (hf:ok ks=true) (Kb:its.length<64)
  (h:∀(p:Array Nat)(s':Shared)(H' N:Hp),mU its.length p->Up (zt ks) p its.length->Inv X ae σ (upd H' a (.lst (p.toList.map λi=>vs.getD i .non))) s'->Ext B N H H'->H' a=none->P (.done (.ret .none)) s'):
  wpAny (model X.prog X.w) A (ksk_tree a qv false) P E s:=by
 have pa:=I.pin (a,seqObj "list" its.toArray n) (mY _ mX)
 have JU:vs.length=its.length:=rv.length
 have JY:ds.length=vs.length:=iv.length.symm
 have VZ:j0.length=ds.length:=kj em
 have T3:ks.length=j0.length:=M.len ek
 have hz:its.length<=sizeLine:=by rw[sizeLine_eq];omega
 have Xw:H a=none:=pa.2.1
 obtain⟨O,Je⟩:∃O,(s.heap.update a (Obj.mapSeq λ_=>(#[]:AV))).get? a=some (seqObj "list" #[] O):=⟨_,get?_update_seq pa.1 λ_=>#[]⟩
 have u1:=vW s.heap a (Obj.mapSeq λ_=>(#[]:AV))
 have I1:Inv X ((a,seqObj "list" #[] O)::ae) σ H { s with heap:=s.heap.update a (Obj.mapSeq λ_=>(#[]:AV)) }:=ie (t':=s.toks) I h0 hp (λb u n q=>(u1.2 b n).trans q) Je dh
 let h2:Heap:=(s.heap.update a (Obj.mapSeq λ_=>(#[]:AV))).push (seqObj "tuple" its.toArray 0)
 have I2:Inv X ((a,seqObj "list" #[] O)::ae) σ H { s with heap:=h2 }:=I1.kept (t':=s.toks) λb u q=>vZ _ q
 let kS:Addr:=h2.objs.size
 have I3:Inv X ((kS,seqObj "list" #[] 0)::(a,seqObj "list" #[] O)::ae) σ H { s with heap:=h2.push (seqObj "list" #[] 0) }:=pf (s:={ s with heap:=h2 }) (t':=s.toks) I2 (λb u q=>vZ _ q) (vT _) (vY _ rfl) dh
 have k0:X.s₀.heap.objs.size<=kS:=I2.sz
 have kp:∀q∈X.pn++((a,seqObj "list" #[] O)::ae),q.1≠kS:=λq hq=>vS (vX (I2.pin q hq).1)
 have Xx:kS≠a:=λz=>kp (a,seqObj "list" #[] O) (mY _ mX) z.symm
 unfold ksk_tree
 refine wX (listItems_at pa.1 rfl ?_)
 refine wX (listUpdate_at pa.1 rfl ?_ (by simpa using hz) (uN _))
 refine wX (seqEpoch_at Je rfl ?_)
 refine wX (wpAny_newTuple ?_ (by show its.length<=sizeLine;exact hz))
 refine wX (wpAny_newList ?_ (uN _))
 refine wpAny_holding ?_
 show wpAny (model X.prog X.w) A (ksk_rest a qv false its.toArray O (.ref kS)) P E { s with heap:=h2.push (seqObj "list" #[] 0) }
 unfold ksk_rest
 refine wX (wpAny_rule ?_)
 rw[List.forIn_toArray]
 refine wX (ksk_fold (λi s'=>∃(H' N:Hp)(kA:AV)(e:Nat)(aG:LV),Inv X ((kS,seqObj "list" kA e)::(a,seqObj "list" #[] O)::ae) σ H' s'/\Ext B N H H'/\bc aG kA.toList/\IsL X.K N aG (j0.take i)) its 0 _
  ⟨H,B,#[],0,[],I3,.refl sB,.nil,by simpa using IsL.nil⟩ ?step ?done)
 case step=>
  rintro j u s' hu ⟨H',N,kA,e,aG,J,U,rk,ik⟩
  simp only[zero_add]at ik ⊢
  have hj:j<its.length:=(vV hu).1
  obtain⟨d,hd⟩:∃d,ds[j]? = some d:=⟨_,vU (by omega)⟩
  obtain⟨v,hv,OY⟩:=iv.get hd
  obtain⟨kd,Wa,R3⟩:=ql em hd
  obtain⟨u',T4,ru⟩:=rv.get hv
  rw[hu]at T4;cases T4
  have kl:kA.size=j:=by
   have z1:=rk.length
   have z2:=ik.length
   rw[length_take]at z2
   rw[vG]at z1
   exact z1.symm.trans (z2.trans (Nat.min_eq_left (by omega)))
  refine wX (wpAny_attempt (wpAny_mono (Gz _ s' H' N v u d kd J U.hh U.bn U.nh (OY.mono U.bn) ru R3) (λw OV hw=>?_) λ_ _ hF=>hF.elim))
  obtain⟨v',Wb,J',Wc,N',x2,i2⟩:=hw
  have pk:=J'.pin (kS,seqObj "list" kA e) (mY _ mX)
  obtain⟨c2,Kc⟩:∃c2,(OV.heap.update kS (Obj.mapSeq (·.push w))).get? kS=some (seqObj "list" (kA.push w) c2):=⟨_,get?_update_seq pk.1 (·.push w)⟩
  have u2:=vW OV.heap kS (Obj.mapSeq (·.push w))
  refine wX (listUpdate_at pk.1 rfl ?_ (by rw[sizeLine_eq];omega) (vR (le_of_eq (Array.size_push ..)) (by rw[sizeLine_eq];omega)))
  refine wY ⟨rfl,Wb,N',kA.push w,c2,aG++[v'],ie (t':=OV.toks) J' k0 kp (λb q n z=>(u2.2 b n).trans z) Kc dh,U.trans x2,?_,?_⟩
  ·rw[toList_push];exact tM Wc rk
  ·rw[take_add_one,Wa];exact(ik.mono x2.bn).append (.cons i2 .nil)
 case done=>
  rintro s' ⟨H',N,kA,e,aG,J,U,rk,ik⟩
  have T5:IsL X.K N aG j0:=by
   have z:j0.take (0+its.length)=j0:=take_of_length_le (by omega)
   rw[z]at ik;exact ik
  have pk:=J.pin (kS,seqObj "list" kA e) (mY _ mX)
  have Wd:=J.pin (a,seqObj "list" #[] O) (mY _ (mZ _ mX))
  have QQ:H' a=none:=Wd.2.1
  have kz:kA.toList.length=its.length:=by rw[←rk.length,T5.length];omega
  have T6:kA.size=its.length:=by rw[←vG];exact kz
  refine wX (listItems_at pk.1 rfl ?_)
  have T7:=M.ask J rk (T5.mono U.nh) ek hf hc
  -- the end of the sort,for a permutation p
  have OZ:∀(st:SortSt)(p:Array Nat),arrOf st=p.map (kas_item (kA.toList.toArray.zip its.toArray))->failedOf st=none->mU its.length p->Up (zt ks) p its.length ->
    wpAny (model X.prog X.w) A (ksk_tail a false O (.ref kS) st) P E s':=λst p ea ef ap up=>by
   have eo:(arrOf st).map (·.2)=List.toArray (p.toList.map λi=>its.getD i Value.none):=kat_snds kz ea
   have Mu:∀i∈p.toList,i<vs.length:=λi hi=>by
    have:=mem_range.mp (ap.perm.mem_iff.mp hi)
    omega
   obtain⟨c3,We⟩:∃c3,(s'.heap.update kS (Obj.mapSeq λ_=>(#[]:AV))).get? kS=some (seqObj "list" #[] c3):=⟨_,get?_update_seq pk.1 λ_=>#[]⟩
   have u3:=vW s'.heap kS (Obj.mapSeq λ_=>(#[]:AV))
   have J3:=ki (ie (t':=s'.toks) J k0 kp (λb q n z=>(u3.2 b n).trans z) We dh)
   have R4:=J3.pin (a,seqObj "list" #[] O) (mY _ mX)
   obtain⟨c4,T8⟩:∃c4,((s'.heap.update kS (Obj.mapSeq λ_=>(#[]:AV))).update a (Obj.mapSeq λ_=>(arrOf st).map (·.2))).get? a=some (seqObj "list" ((arrOf st).map (·.2)) c4):=⟨_,get?_update_seq R4.1 λ_=>(arrOf st).map (·.2)⟩
   have u4:=vW (s'.heap.update kS (Obj.mapSeq λ_=>(#[]:AV))) a (Obj.mapSeq λ_=>(arrOf st).map (·.2))
   have so:((arrOf st).map (·.2)).size=its.length:=by rw[eo];simp only[vH,vI,vG,ap.size]
   unfold ksk_tail
   try dsimp only
   refine wX (listUpdate_at pk.1 rfl ?_ (by rw[T6,sizeLine_eq];omega) (uN _))
   refine wX (wpAny_letGo ?_)
   refine wX (seqEpoch_at R4.1 rfl ?_)
   refine wX (listUpdate_at R4.1 rfl ?_ (uN _) (by simp only[uV,if_false];rw[so,sizeLine_eq];omega))
   rw[ef]
   simp only[bne_self_eq_false,uV,if_false]
   refine wY (h p _ H' N ap up (HM (s:={ s' with heap:=s'.heap.update kS (Obj.mapSeq λ_=>(#[]:AV)) }) (t':=s'.toks) J3 h0 hp (λb q n z=>(u4.2 b n).trans z) ⟨_,T8⟩ ?_) U QQ)
   refine⟨by rw[vI,vG,ap.size];exact hz,p.toList.map λi=>its.getD i Value.none,c4,nD rv p.toList Mu,?_⟩
   rw[←eo];exact T8
  unfold ksk_end
  try dsimp only
  simp only[uV,if_false]
  have Wf:kA=kA.toList.toArray:=by simp
  by_cases g:its.toArray.size<2
  ·rw[if_pos g,if_pos g]
   refine wX (wY ?_)
   rw[StateT.run_pure]
   refine wX (wY ?_)
   have Rt:its.length<2:=by simpa using g
   refine OZ _ (List.toArray (List.range its.length)) ?_ rfl ⟨by simp,by simp⟩ ?_
   ·show kA.zip its.toArray=_
    have:=kas_range (kA.toList.toArray.zip its.toArray)
    rw[show(kA.toList.toArray.zip its.toArray).size=its.length by simp[T6]]at this
    rw[this]
   ·intro i j hij hj
    have:i=j:=by omega
    subst this;exact le_refl _
  ·rw[if_neg g,if_neg g]
   have R5:2<=its.length:=by simp at g;omega
   rw[Wf]
   refine wX (T7.1 (by omega) ?_)
   obtain⟨p,r1,r2,r3⟩:=xX (n:=its.length) (rk:=zt ks) (by omega)
   refine wX (wpAny_mono (kat_run (E:=E) (ks:=kA.toList) (vs:=its) (κ:=tuples' true) (s:=s') (Q:=λT s2=>s2=s'/\arrOf T=p.map (kas_item (kA.toList.toArray.zip its.toArray))/\failedOf T=none)
    (G:=λp' s2=>p'=p/\s2=s') kz R5 Kb (λp' T s2 _ e2 e3 e4=>by
     obtain⟨rfl,rfl⟩:=e4
     exact⟨rfl,e2,e3⟩) (Run.wp (λs2=>s2=s') (λi j C s2 hi hj e hC=>T7.2 i j C s2 (by omega) (by omega) e hC) r1 rfl λs2 e=>⟨rfl,e⟩)) (λr s2 hr=>?_) λ_ _ z=>z)
   obtain⟨⟨⟩,T⟩:=r
   obtain⟨rfl,e2,e3⟩:=hr
   exact OZ T p e2 e3 r2 r3
end
theorem yi {α g:Type}{f:α->g}:∀ {l:List α},(l.map f).Nodup->l.Nodup
 |[],_=>nodup_nil
 |a::l,h=>by
  rw[uY,nodup_cons]at h;exact nodup_cons.mpr ⟨λz=>h.1 (uS ⟨a,z,rfl⟩),yi h.2⟩
def jm (ks:List (List At))(ds:LD):LD:=(eP (λp:List At×D=>c7 p.1) (ks.zip ds)).map (·.2)
def EI {α O:Type}(d:α)(e:O):∀ {G:List α}{g:List O},G.length=g.length->(List.range g.length).map (λi=>(G.getD i d,g.getD i e))=G.zip g:=λ{G g} h=>by
 apply ext_getElem?;intro i;by_cases hi:i<g.length
 ·have M:i<G.length:=by omega
  have:=(getElem?_zip_eq_some (z:=(G[i],g[i]))).mpr ⟨vU M,vU hi⟩;rw[this];simp[hi,M]
 ·simp[hi,h]
def HN {α M:Type}{g:List α}{G:List M}(nd:g.Nodup){a:α}{b c:M}(h1:(a,b)∈g.zip G)(h2:(a,c)∈g.zip G):b=c:=by
 obtain⟨i,hi⟩:=mem_iff_getElem?.mp h1;obtain⟨j,hj⟩:=mem_iff_getElem?.mp h2;obtain⟨T,U⟩:=getElem?_zip_eq_some.mp hi;obtain⟨j1,O⟩:=getElem?_zip_eq_some.mp hj;obtain⟨li,ei⟩:=vV T;obtain⟨lj,ej⟩:=vV j1;have:i=j:=(List.getElem_inj nd).mp (ei.trans ej.symm);subst this;rw[U]at O;exact vK O
def Ae {ds:LD}{ks:List (List At)}{p:Array Nat}(hl:ks.length=ds.length)(hc:dc ks=true)(nd:ks.Nodup)(g:mU ds.length p)(T:Up (zt ks) p ds.length):p.toList.map (λi=>ds.getD i .non)=jm ks ds:=by
 unfold jm;have e:p.toList.map (λi=>(ks.getD i [],ds.getD i .non))=eP (λp:List At×D=>c7 p.1) (ks.zip ds):=by
  apply ib
  ·intro x hx y hy e;have mx:=(of_mem_zip hx).1;have U:=(of_mem_zip hy).1;have:=kP hc mx U e;obtain⟨k1,d1⟩:=x;obtain⟨k2,d2⟩:=y;have z:k1=k2:=this;subst z;rw[HN nd hx hy]
  ·have:=g.perm.map (λi=>(ks.getD i [],ds.getD i D.non));rw[EI [] D.non hl]at this;exact this
  ·rw[List.pairwise_iff_getElem];intro i j hi hj G;have hsz:=g.size;have M:i<p.size:=by simpa using hi
   have O:j<p.size:=by simpa using hj
   have:=T i j (le_of_lt G) (by omega);unfold cr zt at this;have gi:p.getD i 0=p[i]:=by rw[getD_eq_getD_getElem?,getElem?_eq_getElem M];rfl
   have gj:p.getD j 0=p[j]:=by rw[getD_eq_getD_getElem?,getElem?_eq_getElem O];rfl
   have lj:=g.lt (k:=j) (by omega);have mj:ks.getD (p.getD j 0) []∈ks:=by
    have h':p.getD j 0<ks.length:=by omega
    rw[vF,vU h'];exact getElem_mem h'
   have nl:¬c7 (ks.getD (p.getD j 0) [])<c7 (ks.getD (p.getD i 0) []):=λz=>by
    have:=wc (cs:=ks.map c7) (uS ⟨_,mj,rfl⟩) z;omega
   simp only[List.getElem_map,getElem_toList];unfold EB;rw[←gi,←gj];exact nl
 rw[←e,uP];rfl
@[simp] def wh (kd:LD->Option (List (List At)))(ok:List (List At)->Bool)(f:FE)(kf:Env->D->Option D):FE:=λρ=>(f ρ).bind λx=>match x.1 with
 |.lst ds=>(jl (kf ρ) ds).bind λg=>(kd g).bind λks=>if ks.length<64/\dc ks=true/\ok ks=true/\(ks.map c7).Nodup then some (.lst (jm ks ds),true)else none
 |_=>none
@[simp] abbrev qm:FE->(Env->D->Option D)->FE:=wh de dr
section
variable {X:Cx}{e ke:Expr}{p pos kp:Pos}
def EJ {kd:LD->Option (List (List At))}{ok:List (List At)->Bool}(M:KK X X.A.in1.in1 kd ok){f:FE}{kf:Env->D->Option D}(hm:X.mg "sorted" = none)(he:JE X e f)(hk:JK X X.A.in1.in1 ke kf)(hg:Gl X "sorted":=by rfl)
  (R6:starEach [e] X.env=[(false,eval e X.env)]:=by rfl) (R7:backTo pos (starEach [e] X.env)=(false,eval e X.env)::backTo pos (starEach [] X.env):=by rfl) (G:(backTo pos (starEach [e] X.env)).any (·.1)=false:=by rfl)
  (Gg:(backToKw pos (keywordEach [⟨some "key",ke,kp⟩] X.env)).all (·.1.isSome)=true:=by rfl) (R8:(backToKw pos (keywordEach [⟨some "key",ke,kp⟩] X.env)).any (·.1.isNone)=false:=by rfl)
  (R9:(backToKw pos (keywordEach [⟨some "key",ke,kp⟩] X.env)).filterMap (·.1)=[("key" : Str)]:=by rfl):
  JE X (.Call (.Name "sorted" p) [e] [⟨some "key",ke,kp⟩] pos) (wh kd ok f kf):=by
 intro ae s σ H Q I h;obtain⟨B,ρ,d,b,sB,rep,g,q⟩:=h;obtain⟨⟨xd,xb⟩,ex,g⟩:=oX g;cases xd<;>try (cases g;done)
 rename_i ds;obtain⟨j0,em,g⟩:=oX g;obtain⟨ks,ek,g⟩:=oX g;split at g
 ·rename_i hh;obtain⟨Kb,hc,hf,nd⟩:=hh;cases g
  refine wpAny_Call_Name_kw (l7 I hg hm (u:=.builtin "sorted") rfl ?_);refine callWith_kw (c8 ((ee he gE R6) pos ae s σ H (λvs H1=>∃v N,vs=[v]/\Ext B N H H1/\Is X.K N v (.lst ds)) I ⟨B,ρ,_,_,sB,rep,ex,λv H1 N O i1 _=>⟨v,N,rfl,O,i1⟩⟩) λus s1 hA=>?_) R7 G Gg R8;obtain⟨Wg,H1,I1,r1,v,N,rfl,O,i1⟩:=hA;obtain⟨u,rfl,ru⟩:=gK r1;refine kws_cons (hk ae s1 σ H1 N ρ _ _ I1 O.nh (rep.mono O.bn) λqa H2 s2 I2 m2 Gz=>kws_nil ?_);rw[R9];show wpAny _ _ (call (.builtin "sorted") [u] [(("key" : Str),.ref qa)]) _ _ _;cases i1
  rename_i l vs hq il;cases ru
  have sN:aW N H2:=O.nh.trans m2;obtain⟨its,rv,pl,hz⟩:=I2.list (sN.seq hq);have JU:vs.length=its.length:=rv.length;have JY:ds.length=vs.length:=il.length.symm;have VZ:j0.length=ds.length:=kj em;have T3:ks.length=j0.length:=M.len ek;have RA:its.length<64:=by omega
  refine call_function_entry_kw kind_sorted plain_sorted entry_sorted (ksk_s1 _ _) ?_;unfold Builtin.«sorted»;refine wX (m:=checkCount "sorted" 1 1 _) (wY (wX (collect_list pl.isList (wX (wpAny_newList ?_ (by rw[sizeLine_eq];omega))) (by rw[sizeLine_eq];omega))));let h1:Heap:=(s2.heap.push (seqObj "list" #[] 0)).update s2.heap.objs.size (Obj.mapSeq (· ++ its.toArray));have hsz:h1.objs.size=s2.heap.objs.size+1:=by show(Heap.update _ _ _).objs.size=_;rw[Heap.size_update,size_push']
  have T:∀b o,s2.heap.get? b=some o->h1.get? b=some o:=λb o q=>(Heap.get?_update_ne _ _ _ _ (vS (vX q))).trans (vZ _ q);have I3:Inv X ((h1.objs.size,seqObj "list" its.toArray 0)::ae) σ H2 { s2 with heap:=h1.push (seqObj "list" its.toArray 0) } :=
   pf (t':=s2.toks) I2 (λb u q=>vZ _ (T b u q)) (by rw[hsz];exact le_succ _) (vY _ rfl) dh
  have p3:=I3.pin (h1.objs.size,seqObj "list" its.toArray 0) (mY _ mX);show wpAny (model X.prog X.w) X.A.in1 (holding [.ref h1.objs.size] (call (.builtin "list.sort") [.ref h1.objs.size] [(("key" : Str),.ref qa)])>>=_) _ _ { s2 with heap:=h1.push (seqObj "list" its.toArray 0) };refine wX (wpAny_holding (wpAny_call_entry_kw slot_list_sort ⟨_,p3.1,rfl⟩ entry_list_sort ?_ (ksk_l1 _ _)));show wpAny (model X.prog X.w) X.A.in1.in1 (Builtin.«list.sort» ⟨[.ref h1.objs.size],[(Str.ofString "key",.ref qa)]⟩) _ _ _;rw[ksk_t1];refine Ad I3 (vR I2.sz (by rw[hsz];exact le_succ _)) (λq hq=>by rw[hsz];exact vS (lt_succ_of_lt (vX (I2.pin q hq).1))) Gz rv il sN M em ek hc hf RA λpm s' H' N' ap up J U hn=>⟨_,rfl,wY ⟨_,rfl,?_⟩⟩;have G:its.length=ds.length:=by omega
  rw[G]at ap up;have er:=Ae (by omega) hc (yi nd) ap up;have Mu:∀i∈pm.toList,i<ds.length:=λi hi=>mem_range.mp (ap.perm.mem_iff.mp hi);have ip:=qi (il.mono U.bn) pm.toList Mu;rw[er]at ip;have x4:Ext B N' H H':=(O.trans (.grow O.nh m2)).trans U;have hN:N' h1.objs.size=none:=U.nh.free hn;have x5:=x4.trans (Ext.laid (o:=.lst (pm.toList.map λi=>vs.getD i .non)) U.nh hn);exact⟨.ref h1.objs.size,_,J,rfl,q _ _ _ x5 (.lst (gP.of aC) (ip.mono (Ext.laid (o:=.lst (pm.toList.map λi=>vs.getD i .non)) U.nh hn).bn)) λ_=>⟨_,_,_,rfl,rfl,x4.hh.free hn,aC,ip.mono (Ext.laid (o:=.lst (pm.toList.map λi=>vs.getD i .non)) U.nh hn).bn⟩⟩
 ·cases g
end
noncomputable def U0 {f:String->CmpOp->Builtin}(_:f "__lt__" .Lt=Builtin.«tuple.__lt__»):=f
noncomputable def Sx:String->CmpOp->Builtin:=U0 rfl
section
variable {prog:Program}{w:World}{A:Around}{E:QV}{s:Shared}{op:CmpOp}
def fz.type (h:fz s.heap xs v):s.TypeIs v "tuple":=by
 obtain⟨a,o,its,n,rfl,g,hc,_⟩:=h;exact⟨o,g,hc⟩
inductive GeW (prog:Program)(w:World)(A:Around)(s:Shared)(op:CmpOp)(iC r:Bool):List (Value×Value)->Prop
 |nil (h:iC=r):GeW prog w A s op iC r []
 |eq {u v:Value}{l:List (Value×Value)}(h:SeqAt.EqAt A s u v true) (t:GeW prog w A s op iC r l):GeW prog w A s op iC r ((u,v)::l)
 |ne {u v:Value}{l:List (Value×Value)}(h:SeqAt.EqAt A s u v false) (t:∀(Q E:Value->Shared->Prop),Q (.bool r) s->wpAny (model prog w) A (richCompare op u v) Q E s):GeW prog w A s op iC r ((u,v)::l)
def HP {nm:String}(M:s.TypeIs (.ref b) "tuple")(O:s.heap.get? a=some oa)(T:oa.data=.seq its na)(U:s.heap.get? b=some ob)(Rv:ob.data=.seq Jd nb)
  (W:GeW prog w A s op iC r (its.toList.zip Jd.toList)) (hz:Builtin.Tuple.tupleCompareSizes op its.size Jd.size=.bool iC) (Wh:op=.Lt∨op=.Gt∨op=.GtE) (q:P (.done (.ret (.bool r))) s):wpAny (model prog w) A (Sx nm op ⟨[.ref a,.ref b],[]⟩) P E s:=by
 show wpAny _ _ (isInstance (.ref _) (.type "tuple")>>=_) _ _ s;refine wX (wpAny_isInstance M isSubtype_tuple_tuple ?_);simp only[Bool.not_true,uV,if_false];refine wX (wpAny_tupleItemsOf O T ?_);refine wX (wpAny_tupleItemsOf U Rv ?_);refine wX ?_;refine wpAny_forIn_list _ (λaA z s'=>z.1=none/\s'=s/\GeW prog w A s op iC r aA) _ ?_ ?_ _ _ ⟨rfl,rfl,W⟩
 ·rintro⟨u,v⟩ aA z s' ⟨hz,rfl,W⟩;cases W with
  |eq h t=>
   refine wX (h _ _ _ _ ?_);simp only[Bool.not_true,uV,if_false];exact wY ⟨rfl,rfl,t⟩
  |ne h t=>
   refine wX (h _ _ _ _ ?_);simp only[Bool.not_false,if_true];have t:=t (λv g=>v=.bool r/\g=s') E ⟨rfl,rfl⟩;rcases Wh with rfl|rfl|rfl<;>exact wX (wpAny_rule (wX (wpAny_mono t (λv g hv=>by obtain⟨rfl,rfl⟩:=hv;exact wX (wY (wY (wY q)))) λ_ _ z=>z)))
 ·rintro⟨z1,z2⟩ s' ⟨G,rfl,W⟩;simp only at G;subst G;refine wY ?_;cases W with
  |nil h=>
   show P (.done (.ret (Builtin.Tuple.tupleCompareSizes op its.size Jd.size))) s';rw[hz,h];exact q
structure CmR (prog:Program)(w:World)(A:Around)(s:Shared)(op:CmpOp)(R:List At->List At->Bool->Prop)(fl:Nat->Nat->Bool):Prop where
 ei:∀ {a xs ys r},R (.i a::xs) (.i a::ys) r->R xs ys r
 es:∀ {a xs ys r},R (.s a::xs) (.s a::ys) r->R xs ys r
 ni:∀ {a c xs ys r},a≠c->R (.i a::xs) (.i c::ys) r->∀t u (Q E:Value->Shared->Prop),Q (.bool r) s->wpAny (model prog w) A (richCompare op (.int a t) (.int c u)) Q E s
 ns:∀ {a c xs ys r},a≠c->R (.s a::xs) (.s c::ys) r->∀t u (Q E:Value->Shared->Prop),Q (.bool r) s->wpAny (model prog w) A (richCompare op (.str a t) (.str c u)) Q E s
 mx:∀ {a c xs ys r},¬R (.i a::xs) (.s c::ys) r/\¬R (.s c::xs) (.i a::ys) r
 en:∀ {xs r},(R [] xs r->fl 0 xs.length=r)/\(R xs [] r->fl xs.length 0=r)
 fs:∀ {m n},fl (m+1) (n+1)=fl m n
theorem qo (C:CmR prog w A s op R fl):∀(xs ys:List At)(its M:LU),Paired zq xs its->Paired zq ys M->R xs ys r->GeW prog w A s op (fl xs.length ys.length) r (its.zip M)
 |[],_,_,_,.nil,_,h=>.nil (C.en.1 h)
 |_::_,[],_,_,.cons _ _,.nil,h=>.nil (C.en.2 h)
 |.i _::_,.s _::_,_,_,_,_,h=>absurd h C.mx.1
 |.s _::_,.i _::_,_,_,_,_,h=>absurd h C.mx.2
 |.i a::xs,.i c::ys,_,_,.cons O g,.cons T G,h=>by
  obtain⟨t,rfl⟩:=O;obtain⟨u,rfl⟩:=T;have he:=SeqAt.EqAt.int_int (A:=A) (s:=s) a t c u;rw[zip_cons_cons,vE,vE,C.fs];by_cases e:a=c
  ·subst e;rw[show(a == a)=true by simp]at he;exact .eq he (qo C xs ys _ _ g G (C.ei h))
  ·rw[show(a == c)=false by simp[e]]at he;exact .ne he (C.ni e h t u)
 |.s a::xs,.s c::ys,_,_,.cons O g,.cons T G,h=>by
  obtain⟨t,rfl⟩:=O;obtain⟨u,rfl⟩:=T;have he:=SeqAt.EqAt.str_str (A:=A) (s:=s) a t c u;rw[zip_cons_cons,vE,vE,C.fs];by_cases e:a=c
  ·subst e;rw[show(a == a)=true by simp]at he;exact .eq he (qo C xs ys _ _ g G (C.es h))
  ·rw[show(a == c)=false by simp[e]]at he;exact .ne he (C.ns e h t u)
def Oa:CmR prog w A s .Lt (λxs ys r=>bo xs ys=some r) (λm n=>decide (m<n)) where
 ei h:=by rwa [bo,if_pos rfl]at h
 es h:=by rwa [bo,if_pos rfl]at h
 ni e h _ _ _ _ q:=by rw[bo,if_neg e]at h;cases h;exact PyProof.Rows.lt_int q
 ns e h _ _ _ _ q:=by rw[bo,if_neg e]at h;cases h;exact PySem.P.lt_str q
 mx:=by simp[bo]
 en:=λ{xs}=>by cases xs<;>simp[bo]
 fs:=by simp
def Ob:CmR prog w A s .Gt (λxs ys r=>bo ys xs=some r) (λm n=>decide (n<m)) where
 ei h:=by rwa [bo,if_pos rfl]at h
 es h:=by rwa [bo,if_pos rfl]at h
 ni e h _ _ _ _ q:=by rw[bo,if_neg (Ne.symm e)]at h;cases h;exact PyProof.Rows.gt_int q
 ns e h _ _ _ _ q:=by rw[bo,if_neg (Ne.symm e)]at h;cases h;exact PySem.P.gt_str q
 mx:=by simp[bo]
 en:=λ{xs}=>by cases xs<;>simp[bo]
 fs:=by simp
def EK (hx:fz s.heap xs (.ref a)):∃o its n,s.heap.get? a=some o/\o.data=.seq its n/\Paired zq xs its.toList/\xs.length=its.size:=by
 obtain⟨G,o,its,n,e,g,hc,hd,p⟩:=hx;cases e
 exact⟨o,its,n,g,hd,p,by rw[←vG];exact fg p⟩
def J5 {nm:String}(C:CmR prog w A s op R fl)(hz:∀m n,Builtin.Tuple.tupleCompareSizes op m n=.bool (fl m n))(g:op=.Lt∨op=.Gt∨op=.GtE)(hx:fz s.heap xs (.ref a))(hy:fz s.heap ys (.ref b))(h:R xs ys r)(q:P (.done (.ret (.bool r))) s):wpAny (model prog w) A (Sx nm op ⟨[.ref a,.ref b],[]⟩) P E s:=by
 have hb:=hy.type;obtain⟨_,_,_,O,hd,p,T⟩:=EK hx;obtain⟨_,_,_,G,M,U,l2⟩:=EK hy;exact HP hb O hd G M (qo C _ _ _ _ p U h) (by rw[T,l2];exact hz _ _) g q
def EL (hx:fz s.heap xs x)(hy:fz s.heap ys y)(h:bo xs ys=some r)(hu:A.units<cLine)(q:Q (.bool r) s):wpAny (model prog w) A (richCompare .Lt x y) Q E s:=by
 have g:=hx.type;have ty:=hy.type;obtain⟨a,_,_,_,rfl,_⟩:=id hx;obtain⟨b,_,_,_,rfl,_⟩:=id hy;exact wpAny_richCompare_same_room (op:=.Lt) g ty slot_tuple_lt (wpAny_call_entry slot_tuple_lt g PySem.F.entry_tuple_lt (J5 Oa (λ_ _=>rfl) (.inl rfl) hx hy h ⟨_,rfl,(λe=>nomatch e),q⟩) (PySem.F.args_tuple_lt_2 _ _)) hu
def Oc (hx:fz s.heap xs x)(hy:fz s.heap ys y)(h:bo ys xs=some r)(hu:A.units<cLine)(q:Q (.bool r) s):wpAny (model prog w) A (richCompare .Gt x y) Q E s:=by
 have g:=hx.type;have ty:=hy.type;obtain⟨a,_,_,_,rfl,_⟩:=id hx;obtain⟨b,_,_,_,rfl,_⟩:=id hy;exact wpAny_richCompare_same_room (op:=.Gt) g ty slot_tuple_gt (wpAny_call_entry slot_tuple_gt g PySem.F.entry_tuple_gt (J5 Ob (λ_ _=>rfl) (.inr (.inl rfl)) hx hy h ⟨_,rfl,(λe=>nomatch e),q⟩) (PySem.F.args_tuple_gt_2 _ _)) hu
end
def mu:List At×D->List (List At×D)->D
 |b,[]=>b.2
 |b,x::r=>if bo b.1 x.1=some true then mu x r else mu b r
def ln:List At×D->List (List At×D)->D
 |b,[]=>b.2
 |b,x::r=>if bo x.1 b.1=some true then ln x r else ln b r
noncomputable def U1 {f:String->CmpOp->Builtin}(_:f "max" .Gt=Builtin.«max.loop»):=f
noncomputable def U2:String->CmpOp->Builtin:=U1 rfl
noncomputable def U3 {f:String->Builtin}(_:f "max" = Builtin.«max»):=f
noncomputable def U4:String->Builtin:=U3 rfl
structure MM (nm lp:String)(ns:Str)(op:CmpOp)(lt:List At->List At->Option Bool)(go:List At×D->List (List At×D)->D):Prop where
 hn:(toString nm++toString ".loop" : String)=lp
 en:entryFor table lp=some (U2 nm op)
 pl:plainId lp=true
 k2:builtinKind nm=none
 p2:plainId nm=true
 e2:entryFor table nm=some (U4 nm)
 ka:∀a v:Value,argsOk nm ⟨[a],[(Str.ofString "key",v)]⟩
 bt:bootBuiltins ns=some (.builtin nm)
 n1:ns ≠ "__name__"
 n2:(ns == ("__debug__" : Str))=false
 g0:∀b,go b []=b.2
 g1:∀b x r,go b (x::r)=if lt b.1 x.1=some true then go x r else go b r
 cg:∀ {ks:List (List At)},dc ks=true->∀ {a b},a∈ks->b∈ks->∃r,lt a b=some r
 rc:∀ {prog:Program}{w:World}{A:Around}{E:Value->Shared->Prop}{s:Shared}{xs ys:List At}{x y:Value}{r:Bool}{Q:Value->Shared->Prop},fz s.heap xs x->fz s.heap ys y->lt ys xs=some r->A.units<cLine->Q (.bool r) s->wpAny (model prog w) A (richCompare op x y) Q E s
def Sy:MM "max" "max.loop" "max" .Gt bo mu :=
 ⟨by decide,PySem.F.entry_max_loop,PySem.F.plain_max_loop,PySem.F.kind_max,PySem.F.plain_max,PySem.F.entry_max,λ_ _=>by unfold argsOk;kernel_rfl,rfl,by decide,by decide,λ_=>rfl,λ_ _ _=>rfl,λh _ _ a b=>⟨_,gX h a b⟩,Oc⟩
def Q7:MM "min" "min.loop" "min" .Lt (λa b=>bo b a) ln :=
 ⟨by decide,PySem.F.entry_min_loop,PySem.F.plain_min_loop,PySem.F.kind_min,PySem.F.plain_min,PySem.F.entry_min,λ_ _=>by unfold argsOk;kernel_rfl,rfl,by decide,by decide,λ_=>rfl,λ_ _ _=>rfl,λh _ _ a b=>⟨_,gX h b a⟩,EL⟩
section
variable {X:Cx}{ae:AO}{σ:St}
def Af (J:Inv X ((a1,o1)::(a2,o2)::ae) σ H' s'):Inv X ((a2,o2)::(a1,o1)::ae) σ H' s' :=
 J.pins_of λq hq=>J.pin q (by
  rcases vP hq with rfl|hq
  ·exact mY _ (mZ _ mX)
  ·rcases vP hq with rfl|hq
   ·exact mY _ mX
   ·exact mY _ (mZ _ (mZ _ hq)))
def qp (hp:∀q∈X.pn++ae,q.1≠a)(h:S≠a):∀q∈X.pn++((S,o)::ae),q.1≠a:=λq hq=>by
 rcases mem_append.mp hq with hq|hq
 ·exact hp q (mem_append_left _ hq)
 ·rcases vP hq with rfl|hq
  ·exact h
  ·exact hp q (mY _ hq)
def ph (I:Inv X ae σ H s)(r:aU v u)(i:Is X.K H v d)(e:mr d=some k):fz s.heap k u:=by
 have:=ms I (ys:=[v]) (ds:=[d]) (ks:=[k]) (its:=[u]) (.cons r .nil) (.cons i .nil) (by simp only[de,e];rfl);cases this;assumption
inductive MK (X:Cx)(ae:List (Addr×Obj))(σ:St)(S It l:Addr)(o:Obj)(j:Nat)(N H:Hp)(y:List At×D)(u ku:Value)(s:Shared):Prop
 |mk (H2 N2:Hp) (v kv:V) (kd:D) (oI:Obj) (J:Inv X ((S,o)::(It,oI)::ae) σ H2 s) (A5:s.heap.IsListIter It l (j+1)) (x:Ext N N2 H H2) (ru:aU v u) (iv:Is X.K N2 v y.2) (rk:aU kv ku) (ik:Is X.K N2 kv kd) (ek:mr kd=some y.1)
def EM {E:QV}{It:Addr}(hh:X.A.handled=none)(Gz:Bn X X.A.in1 σ (.ref qa) B H1 kf)(hq:gP X.K B l vs)(iv:IsL X.K B vs ds)(em:jl kf ds=some j0)(ek:de j0=some ks)(I0:X.s₀.heap.objs.size<=It)(Mw:∀q∈X.pn++((S,o)::ae),q.1≠It)
  (Mx:l≠It) (hz:(ks.zip ds)[j]? = some y) (I:Inv X ((S,o)::(It,oI)::ae) σ H s) (A5:s.heap.IsListIter It l j) (g:Ext B N H1 H):
  wpAny (model X.prog X.w) X.A.in1 (pyNext (.ref It)) (λr s1=>∃u,r=some u/\wpAny (model X.prog X.w) X.A.in1 (call (.ref qa) [u]) (MK X ae σ S It l o j N H y u) (λ_ _=>False) s1) E s:=by
 obtain⟨its,rv,pl,_⟩:=I.list ((g.bn.trans g.nh).seq hq);obtain⟨hk,hd⟩:=getElem?_zip_eq_some.mp hz;obtain⟨v,hv,M⟩:=iv.get hd;obtain⟨kd,O,R3⟩:=ql em hd;obtain⟨u,hu,ru⟩:=rv.get hv;have ML:mr kd=some y.1:=by
  have:=jk ek (i:=j) (vV O).1;rw[vF,O,vF,hk]at this;exact this
 refine(Walks.list (prog:=X.prog) (w:=X.w) (A:=X.A.in1) hh It l Mx its.toArray).item j _ _ _ (by simpa using(vV hu).1) ⟨A5,pl.isList⟩ λu' h' Mv hP T JZ=>?_;have U:its[j]? = some u':=by simpa using hP
 rw[hu]at U;cases U;obtain⟨G,RB,IZ,T9⟩:=id T.1;exact⟨u,rfl,c8 (Gz _ _ H N v u y.2 kd (Af (ie (t':=Mv) (Af I) I0 Mw (λb o n e=>JZ b o (by simpa using n) e) RB (λv z=>by rw[T9]at z;cases z))) g.hh g.bn g.nh (M.mono g.bn) ru R3) λku s2 ⟨kv,H2,J4,rk,N2,x2,ik⟩=>
  ⟨H2,N2,v,kv,kd,G,J4,⟨G,(J4.pin (It,G) (mY _ (mZ _ mX))).1,IZ,T9⟩,x2,ru,M.mono (g.bn.trans x2.bn),rk,ik,ML⟩⟩
def HQ {nm lp:String}{ns:Str}{op:CmpOp}{lt:List At->List At->Option Bool}{go:List At×D->List (List At×D)->D}(M:MM nm lp ns op lt go){qv:Value}{l S It:Addr}{vs:LV}{ds j0:LD}{ks:List (List At)}{B H1:Hp}{kf:D->Option D}{d0:D}{R:Result->Shared->Prop}(hh:X.A.handled=none)(hu:X.A.in1.units<cLine)(Gz:Bn X X.A.in1 σ qv B H1 kf)(Wi:∃a,qv=.ref a)(hq:gP X.K B l vs)(iv:IsL X.K B vs ds)
  (em:jl kf ds=some j0) (ek:de j0=some ks) (hc:dc ks=true) (S0:X.s₀.heap.objs.size<=S) (I0:X.s₀.heap.objs.size<=It) (Pa:∀q∈X.pn++ae,q.1≠S) (Mw:∀q∈X.pn++ae,q.1≠It) (U:S≠It) (PN:S≠l) (Mx:l≠It)
  (hR:∀(s':Shared)(H' N:Hp)(v:V)(u:Value),Inv X ae σ H' s'->Ext B N H1 H'->aU v u->Is X.K N v d0->R (.ok (.ret u)) s'):
  ∀(r j:Nat)(s:Shared)(H N:Hp)(G g:Value)(vb O:V)(db T:D)(kb:List At)(c:Nat)(oI:Obj),vs.length - j=r->j<=vs.length->Inv X ((S,seqObj "list" #[G,g] c)::(It,oI)::ae) σ H s->s.heap.IsListIter It l j->Ext B N H1 H ->
   aU vb G->Is X.K N vb db->aU O g->Is X.K N O T->mr T=some kb->kb∈ks->go (kb,db) ((ks.zip ds).drop j)=d0 ->
   codeAny (model X.prog X.w) X.A (.builtin lp ⟨[.ref It,qv,.ref S],[]⟩) R s:=by
 obtain⟨qa,rfl⟩:=Wi;intro r;induction r with
 |zero=>
  intro j s H N G g vb O db T kb c oI hr hj I A5 x1 r1 i1 r2 i2 ekb mk hd;have pS:=I.pin (S,seqObj "list" #[G,g] c) (mY _ mX);have sB:aW B H:=x1.bn.trans x1.nh;obtain⟨its,rv,pl,_⟩:=I.list (sB.seq hq);have hl:=pl.isList;have W:=Walks.list (prog:=X.prog) (w:=X.w) (A:=X.A.in1) hh It l Mx its.toArray;have hsz:its.toArray.size=its.length:=vH ..;have JU:vs.length=its.length:=rv.length;have JY:ds.length=its.length:=by rw[←iv.length];exact rv.length
  have Ru:ks.length=ds.length:=by rw[fW ek,kj em]
  have R1:db=d0:=by
   rw[List.drop_of_length_le (by rw[length_zip];omega)]at hd;rw[M.g0]at hd;exact hd
  subst R1;refine codeAny_builtin M.en ?_;rw[Around.under_plainId M.pl _];show wpAny _ X.A.in1 (seqItems? (.ref S)>>=_) _ _ _;refine wX (wpAny_seqItems pS.1 rfl ?_);show wpAny _ X.A.in1 (tryCatch (pyNext (.ref It)) _>>=_) _ _ _;refine wX (wpAny_tryCatch (W.done _ _ _ ⟨by rw[hsz,show its.length=j by omega];exact A5,hl⟩ λh' Mv JZ=>?_));have J1:Inv X ((It,oI)::(S,seqObj "list" #[G,g] c)::ae) σ H s:=Af I;have RC:∀q∈X.pn++((S,seqObj "list" #[G,g] c)::ae),q.1≠It:=qp Mw U;have J2:Inv X ((S,seqObj "list" #[G,g] c)::ae) σ H { s with heap:=h',toks:=Mv } :=
   (ki J1).turned (t':=Mv) (λb o n e=>JZ b o (by simpa using n) e) (J1.pin (It,oI) (mY _ mX)).2.1 (J1.pin (It,oI) (mY _ mX)).2.2.1 (.inr I0) (nE J1) RC
  have TB:=J2.pin (S,seqObj "list" #[G,g] c) (mY _ mX);obtain⟨c2,Kc⟩:∃c2,(h'.update S (Obj.mapSeq λ_=>(#[]:AV))).get? S=some (seqObj "list" #[] c2):=⟨_,get?_update_seq TB.1 λ_=>#[]⟩;have u2:=vW h' S (Obj.mapSeq λ_=>(#[]:AV));show wpAny _ X.A.in1 (updateSeq S (λ_=>#[])>>=_) _ _ _;refine wX ?_;refine wpAny_updateSeq TB.1 rfl (wX (wpAny_letGo (wY ?_)));exact hR _ H N vb G (ki (ie (t':=Mv) J2 S0 Pa (λb o n e=>(u2.2 b n).trans e) Kc dh)) x1 r1 i1
 |succ r ih=>
  intro j s H N G g vb O db T kb c oI hr hj I A5 x1 r1 i1 r2 i2 ekb mk hd;have Cn:j<(ks.zip ds).length:=by rw[length_zip,fW ek,kj em,←iv.length];omega
  have pS:=I.pin (S,seqObj "list" #[G,g] c) (mY _ mX);have hz:=vU Cn;rw[List.drop_eq_getElem_cons Cn,M.g1]at hd;generalize (ks.zip ds)[j]=y at hz hd;have hm:y.1∈ks:=vL (getElem?_zip_eq_some.mp hz).1;obtain⟨r,RD⟩:=M.cg hc mk hm;refine codeAny_builtin M.en ?_;rw[Around.under_plainId M.pl _];show wpAny _ X.A.in1 (seqItems? (.ref S)>>=_) _ _ _;refine wX (wpAny_seqItems pS.1 rfl ?_);show wpAny _ X.A.in1 (tryCatch (pyNext (.ref It)) _>>=_) _ _ _;refine wX (wpAny_tryCatch (c8 (EM hh Gz hq iv em ek I0 (qp Mw U) Mx hz I A5 x1) λ_ s1 ⟨u,e,h1⟩=>?_));subst e;show wpAny _ X.A.in1 (tryCatch (holding [u] (call (.ref qa) [u])) _>>=_) _ _ _;refine wX (wpAny_tryCatch (wpAny_holding (wpAny_mono h1 (λku s2 ⟨H2,N2,v,kv,kd,PP,J4,Pb,x2,ru,OY,rk,ik,ML⟩=>?_) λ_ _ z=>z.elim)));have t1:=ph J4 rk (ik.mono x2.nh) ML;have t2:=ph J4 r2 (i2.mono (x2.bn.trans x2.nh)) ekb;show wpAny _ X.A.in1 (tryCatch (holding [u,ku] (richCompare op ku g>>=_)) _>>=_) _ _ _;refine wX (wpAny_tryCatch (wpAny_holding (wX (M.rc t1 t2 RD hu ?_))));refine wX (wpAny_holding (wpAny_truthy_bool ?_));refine wX (wpAny_letGo (wY ?_));cases r with
  |true=>
   rw[if_pos RD]at hd;have u2:=vW s2.heap S (Obj.mapSeq λ_=>#[u,ku]);simp only[if_true];have Pc:=J4.pin (S,seqObj "list" #[G,g] c) (mY _ mX);refine wX (wpAny_updateSeq Pc.1 rfl (wX (wpAny_letGo ?_)));rw[M.hn];obtain⟨o,g1,g2⟩:=Pb;exact wY ⟨plainId_quiet M.pl _,ih (j+1) _ H2 N2 u ku v kv y.2 kd y.1 _ PP (by omega) (by omega) (ie (t':=s2.toks) J4 S0 (qp Pa U.symm) (λb o n e=>(u2.2 b n).trans e) (get?_update_seq Pc.1 λ_=>#[u,ku]) dh) ⟨o,(u2.2 It U.symm).trans g1,g2⟩ (x1.trans x2) ru OY rk ik ML hm hd⟩
  |false=>
   rw[if_neg (by rw[RD];simp)]at hd;simp only[uV,if_false];refine wX (wpAny_letGo ?_);rw[M.hn];exact wY ⟨plainId_quiet M.pl _,ih (j+1) _ H2 N2 G g vb O db T kb c PP (by omega) (by omega) J4 Pb (x1.trans x2) r1 (i1.mono x2.bn) r2 (i2.mono x2.bn) ekb mk hd⟩
end
@[simp] def L3 (go:List At×D->List (List At×D)->D)(f:FE)(kf:Env->D->Option D):FE:=λρ=>(f ρ).bind λx=>match x.1 with
 |.lst ds=>(jl (kf ρ) ds).bind λg=>(de g).bind λks=>if dc ks=true then match ks.zip ds with
  |[]=>none
  |y::r=>some (go y r,false)
  else none
 |_=>none
@[simp] def tN:=L3 mu
@[simp] def tO:=L3 ln
section
variable {X:Cx}{e ke:Expr}{p pos kp:Pos}
def yj {nm lp:String}{ns:Str}{op:CmpOp}{lt:List At->List At->Option Bool}{go:List At×D->List (List At×D)->D}(M:MM nm lp ns op lt go){f:FE}{kf:Env->D->Option D}{k:Nat}(hm:X.mg ns=none)(he:JE X e f)(hk:JK X X.A.in1 ke kf)(hr:eW k X.A)(hg:Gl X ns:=by rfl)
  (R6:starEach [e] X.env=[(false,eval e X.env)]:=by rfl) (R7:backTo pos (starEach [e] X.env)=(false,eval e X.env)::backTo pos (starEach [] X.env):=by rfl) (D7:(backTo pos (starEach [e] X.env)).any (·.1)=false:=by rfl)
  (Gg:(backToKw pos (keywordEach [⟨some "key",ke,kp⟩] X.env)).all (·.1.isSome)=true:=by rfl) (R8:(backToKw pos (keywordEach [⟨some "key",ke,kp⟩] X.env)).any (·.1.isNone)=false:=by rfl)
  (R9:(backToKw pos (keywordEach [⟨some "key",ke,kp⟩] X.env)).filterMap (·.1)=[("key" : Str)]:=by rfl):
  JE X (.Call (.Name ns p) [e] [⟨some "key",ke,kp⟩] pos) (L3 go f kf):=by
 intro ae s σ H Q I h;obtain⟨B,ρ,d,b,sB,rep,g,q⟩:=h;obtain⟨⟨xd,xb⟩,ex,g⟩:=oX g;cases xd<;>try (cases g;done)
 rename_i ds;obtain⟨j0,em,g⟩:=oX g;obtain⟨ks,ek,g⟩:=oX g;split at g
 ·rename_i hc;split at g
  ·cases g
  ·rename_i y aA ez;cases g
   refine wpAny_Call_Name_kw (l7 I hg hm M.bt ?_ M.n1 M.n2);refine callWith_kw (c8 ((ee he gE R6) pos ae s σ H (λvs H1=>∃v N,vs=[v]/\Ext B N H H1/\Is X.K N v (.lst ds)) I ⟨B,ρ,_,_,sB,rep,ex,λv H1 N O i1 _=>⟨v,N,rfl,O,i1⟩⟩) λus s1 hA=>?_) R7 D7 Gg R8;obtain⟨Wg,H1,I1,r1,v,N,rfl,O,i1⟩:=hA;obtain⟨u,rfl,ru⟩:=gK r1;refine kws_cons (hk ae s1 σ H1 N ρ _ _ I1 O.nh (rep.mono O.bn) λT H2 s2 U m2 Gz=>kws_nil ?_);rw[R9];show wpAny _ _ (call (.builtin nm) [u] [(("key" : Str),.ref T)]) _ _ _;cases i1
   rename_i l vs hq il;cases ru
   have sN:aW N H2:=O.nh.trans m2;obtain⟨its,rv,pl,hz⟩:=U.list (sN.seq hq);have PQ:l<s2.heap.objs.size:=by
    obtain⟨ol,OW,_⟩:=pl.isList;exact vX OW
   have z0:(ks.zip ds)[0]? = some y:=by rw[ez];rfl
   have Wj:=vL (getElem?_zip_eq_some.mp z0).1;refine kmk_tree M.k2 M.p2 M.e2 (M.ka _ _) ?_;show wpAny _ X.A.in1 (Builtin.Builtins.bindParams nm ["key","default"] 0 ⟨[],[(Str.ofString "key",.ref T)]⟩>>=_) _ _ s2;refine wX (wpAny_of_eq (show Builtin.Builtins.bindParams nm ["key","default"] 0 ⟨[],[(Str.ofString "key",.ref T)]⟩=pure [some (.ref T),none]from rfl) ?_);refine wX (wY ?_);refine wX (wpAny_pyIter_list pl.isList ?_);refine wX (wpAny_newList ?_ (uN _));rw[M.hn];let It:Addr:=s2.heap.objs.size;let oI:Obj:={ cls:=.type "list_iterator",data:=.fields #[.ref l,.int 0 0] };let S:Addr:=(s2.heap.push oI).objs.size;have hS:S=s2.heap.objs.size+1:=size_push' ..;have G:S≠It:=by rw[hS];exact ne_of_gt (lt_succ_self _)
   have J1:Inv X ((It,oI)::ae) σ H2 { s2 with heap:=s2.heap.push oI }:=pf (t':=s2.toks) U (λb u q=>vZ _ q) (vT _) (vY _ rfl) (λv z=>by cases z);have J2:Inv X ((S,seqObj "list" #[] 0)::(It,oI)::ae) σ H2 { s2 with heap:=(s2.heap.push oI).push (seqObj "list" #[] 0) }:=pf (s:={ s2 with heap:=s2.heap.push oI }) (t':=s2.toks) J1 (λb u q=>vZ _ q) (vT _) (vY _ rfl) dh;have I0:X.s₀.heap.objs.size<=It:=U.sz;have S0:X.s₀.heap.objs.size<=S:=by rw[hS];exact le_succ_of_le U.sz
   have Mw:∀q∈X.pn++ae,q.1≠It:=λq hq=>vS (vX (U.pin q hq).1);have Pa:∀q∈X.pn++ae,q.1≠S:=λq hq=>by rw[hS];exact vS (lt_succ_of_lt (vX (U.pin q hq).1))
   have Mx:l≠It:=vS PQ;have PN:S≠l:=by rw[hS];exact ne_of_gt (lt_succ_of_lt PQ)
   have hh:X.A.handled=none:=hr.hd;have hu:X.A.in1.units<cLine:=by have:=hr.un;show X.A.units+1<cLine;omega
   have pS:=J2.pin (S,seqObj "list" #[] 0) (mY _ mX);have pI:=J2.pin (It,oI) (mY _ (mZ _ mX));refine wY ⟨plainId_quiet M.pl _,?_⟩;refine codeAny_builtin M.en ?_;rw[Around.under_plainId M.pl _];show wpAny _ X.A.in1 (seqItems? (.ref S)>>=_) _ _ { s2 with heap:=(s2.heap.push oI).push (seqObj "list" #[] 0) };refine wX (wpAny_seqItems pS.1 rfl ?_);show wpAny _ X.A.in1 (tryCatch (pyNext (.ref It)) _>>=_) _ _ _;refine wX (wpAny_tryCatch (c8 (EM hh Gz hq il em ek I0 (qp Mw G) Mx z0 J2 ⟨oI,pI.1,rfl,rfl⟩ (.refl sN)) λ_ s1 ⟨u,e,h1⟩=>?_));subst e;show wpAny _ X.A.in1 (tryCatch (holding [u] (call (.ref T) [u])) _>>=_) _ _ _;refine wX (wpAny_tryCatch (wpAny_holding (wpAny_mono h1 (λku s3 ⟨H3,N3,v,kv,kd,PP,J4,⟨o,g1,g2⟩,x3,ru,OY,rk,ik,ML⟩=>?_) λ_ _ z=>z.elim)));have Pc:=J4.pin (S,seqObj "list" #[] 0) (mY _ mX);have u2:=vW s3.heap S (Obj.mapSeq λ_=>#[u,ku]);show wpAny _ X.A.in1 (updateSeq S (λ_=>#[u,ku])>>=_) _ _ _;refine wX (wpAny_updateSeq Pc.1 rfl ?_);rw[M.hn];have RE:1<=vs.length:=by
    have:=congrArg List.length ez;rw[length_zip,vE,←il.length]at this;omega
   exact wY ⟨plainId_quiet M.pl _,HQ M (S:=S) (It:=It) hh hu Gz ⟨T,rfl⟩ hq il em ek hc S0 I0 Pa Mw G PN Mx (λs' H' N' v' u' J' x' r' i'=>⟨v',H',J',r',q _ _ _ ((O.trans (.grow O.nh m2)).trans x') i' (by simp)⟩) _ 1 _ H3 N3 u ku v kv y.2 kd y.1 _ PP rfl RE
    (ie (t':=s3.toks) J4 S0 (qp Pa G.symm) (λb o n e=>(u2.2 b n).trans e) (get?_update_seq Pc.1 λ_=>#[u,ku]) dh) ⟨o,(u2.2 It G.symm).trans g1,g2⟩ x3 ru OY rk ik ML Wj (by rw[ez];rfl)⟩
 ·cases g
end
section
variable {X:Cx}
@[simp] def Km:D->D->OB
 |.tup xs,.tup ys=>(fK xs).bind λg=>(fK ys).bind λbs=>(bo g bs).map λr=>(.bl r,false)
 |_,_=>none
def Od (hu:X.A.units+40<cLine):dE X (compareOp .Lt) (rD X.K Km):=by
 intro ae s σ H x y v u Q I G M q;obtain⟨B,dx,O,d,b,g,T,U,e,q⟩:=q;cases dx<;>try (simp[Km]at e;done)
 cases O<;>try (simp[Km]at e;done)
 simp only[Km]at e;obtain⟨as,e1,e⟩:=oX e;obtain⟨bs,e2,e⟩:=oX e;obtain⟨r,e3,e⟩:=oY e;cases e
 show wpAny _ _ (richCompare .Lt v u) _ _ _;exact EL (ph I G (T.mono g) e1) (ph I M (U.mono g) e2) e3 (by omega) ⟨.bl r,H,I,rfl,q.one g (.bl r)⟩
end
end DL
namespace DL
open PySem PySem.Spec PyProof.Rows L2
section
variable {X:Cx}
noncomputable def tP:D->D->OB
 |.tup xs,.tup ys=>if xs.isEmpty=true then some (.tup ys,false)else none
 |_,_=>none
def HR:dE X (binaryOp .Add) (rD X.K tP):=by
 intro ae s σ H x y v u Q I rx ry q;obtain⟨B,dx,dy,d,bb,U,ix,iy,g,q⟩:=q;cases ix<;>try (cases g;done)
 cases iy<;>try (cases g;done)
 rename_i l vs ds h hl l' ws es h' hl';simp only[tP]at g;split at g
 ·rename_i hz;cases g
  cases rx
  cases ry
  obtain⟨its,r1,p1,_⟩:=I.tuple (bu U h);obtain⟨G,r2,p2,_⟩:=I.tuple (bu U h');have he:its.toArray.isEmpty=true:=by
   have e1:=hl.length;have e2:=r1.length;have e3:=List.isEmpty_iff.mp hz;rw[e3]at e1;cases its with
   |nil=>rfl
   |cons a b=>rw[e1]at e2;simp at e2
  obtain⟨⟨cls,dd,data,sl⟩,ho,hc,n,hd⟩:=id p1;obtain⟨⟨QW,PR,data2,Wk⟩,M,O,n2,T⟩:=id p2;dsimp only at hc hd O T;subst hc;subst hd;subst O;subst T;exact concat_meets ⟨_,ho,rfl⟩ ⟨_,M,rfl⟩ noFill_tuple_add seq_tuple_add slot_tuple_add entry_tuple_add (args_tuple_add_2 _ _)
   (tuple_addW0 l l' its.toArray G.toArray n n2 dd PR sl Wk he) ⟨ho,M,⟨.ref l',H,I,rfl,q.one U (.tup h' hl')⟩⟩
 ·cases g
@[simp] noncomputable def Bp:D->D->OB
 |.tup xs,.tup ys=>if xs.length+ys.length<=sizeLine then some (.tup (xs++ys),false)else none
 |_,_=>none
def HS (xs ys:LD)(z:xs.length+ys.length<=sizeLine):DA sn tP (.tup xs) (.tup ys)=some (.tup (xs++ys),false):=by
 cases xs with
 |nil=>
  have:sn (.tup []) (.tup ys)=none:=if_neg (λh=>by cases h.2);show(match sn (.tup []) (.tup ys) with|some z=>some z|none=>tP (.tup []) (.tup ys))=_;rw[this];rfl
 |cons a l=>
  have:sn (.tup (a::l)) (.tup ys)=some (.tup (a::l++ys),false):=if_pos ⟨z,rfl⟩;show(match sn (.tup (a::l)) (.tup ys) with|some z=>some z|none=>tP (.tup (a::l)) (.tup ys))=_;rw[this]
def EN:dE X (binaryOp .Add) (rD X.K Bp):=by
 refine iP (r:=rD X.K (DA sn tP)) (nv Eo HR) λx y H Q q=>?_;obtain⟨B,dx,O,d,bb,T,G,M,g,q⟩:=q;refine⟨B,dx,O,d,bb,T,G,M,?_,q⟩;cases G<;>try (cases g;done)
 cases M<;>try (cases g;done)
 rename_i l vs ds h hl l' ws es h' U;simp only[Bp]at g;split at g
 ·rename_i hz;rw[HS _ _ hz];exact g
 ·cases g
end
@[simp] noncomputable def km:D->Option dD
 |.int i=>some (.inl i)
 |.str x=>some (.inr x)
 |_=>none
def ot {K:Frag}{B:Hp}{v:V}{d:D}{k:dD}(i:Is K B v d)(e:km d=some k):v=kV k:=by
 cases i<;>simp only[km]at e<;>cases e<;>rfl
noncomputable def cm {κ:Type}[DecidableEq κ]:List κ->LD->κ->Option D
 |k'::ks,d::ds,k=>if k'=k then some d else cm ks ds k
 |_,_,_=>none
theorem qq {κ:Type}[DecidableEq κ]{K:Frag}{B:Hp}(k:κ):∀ {ks:List κ}{vs:LV}{ds:LD},ks.length=vs.length->IsL K B vs ds ->
  (∃v d,jO (ks.zip vs) k=some v/\cm ks ds k=some d/\Is K B v d)∨(jO (ks.zip vs) k=none/\cm ks ds k=none)
 |[],vs,ds,_,_=>.inr ⟨by cases vs<;>rfl,by cases ds<;>rfl⟩
 |k'::ks,[],_,h,_=>by simp at h
 |k'::ks,v::vs,_,h,.cons i is=>by
  rw[zip_cons_cons];unfold cm;by_cases e:k'=k
  ·rw[if_pos e];exact .inl ⟨v,_,lX (p:=(k',v)) e,rfl,i⟩
  ·rw[if_neg e,lY (p:=(k',v)) e];exact qq k (by simpa using h) is
section
variable {X:Cx}{o e i:Expr}{pos:Pos}
@[simp] def EO:D->D->OB
 |.dk ks vs,y=>(km y).map λk=>((cm ks vs k).getD .non,false)
 |_,_=>none
def EQ {cG bR:Pos}{U fe:FE}(hu:X.A.units+1<cLine)(ho:JE X o U)(he:JE X e fe)(m:M1 X o "get" cG e bR):JE X (.Call (.Attribute o "get" cG) [e] [] bR) (f2 EO U fe):=by
 refine PE.to (xm hu ho he m) λσ H Q q=>?_;obtain⟨B,ρ,d,bb,sB,r,g,q⟩:=q;obtain⟨x,ex,g⟩:=oX g;obtain⟨y,ey,g⟩:=oX g;refine⟨B,ρ,x.1,x.2,sB,r,ex,λv H1 N1 M i1 ff=>?_⟩;obtain⟨xd,xb⟩:=x;cases i1 with
 |@dk a ks vs ds ob h hl hs=>
  simp only[EO]at g;obtain⟨k,hk,g⟩:=oY g;cases g
  refine⟨a,rfl,.inl ⟨_,_,.inl (M.nh _ _ h)⟩,N1,ρ,y.1,y.2,M.nh,r.mono M.bn,ey,λv2 H2 N2 G i2 _=>?_⟩;have hv:=ot i2 hk;subst hv;refine⟨jO (ks.zip vs) k,.inl ⟨_,k,_,.inl (G.nh _ _ (G.bn _ _ h)),rfl,rfl⟩,?_⟩;have O:=hs.mono G.bn;rcases qq k hl O with⟨v,d',T,e2,i3⟩|⟨T,e2⟩
  ·rw[T];rw[e2]at q;exact(q.into (M.trans G)).one G.nh i3
  ·rw[T];rw[e2]at q;exact(q.into (M.trans G)).one G.nh .non
 |_=>simp[EO]at g
@[simp] def L4:D->D->OB
 |.dk ks vs,y=>(km y).bind λk=>(cm ks vs k).map λd=>(d,false)
 |_,_=>none
def L5 {T fi:FE}(hu:X.A.units+1<cLine)(U:JE X o T)(hi:JE X i fi)(hs:KO i):JE X (.Subscript o i pos) (f2 L4 T fi):=by
 refine PE.to (GV hu U hi hs) λσ H Q q=>?_;obtain⟨B,ρ,d,bb,sB,r,g,q⟩:=q;obtain⟨x,ex,g⟩:=oX g;obtain⟨y,ey,g⟩:=oX g;refine⟨B,ρ,x.1,x.2,sB,r,ex,λv H1 N1 M i1 ff=>?_⟩;obtain⟨xd,xb⟩:=x;cases i1 with
 |@dk a ks vs ds ob h hl O=>
  simp only[L4]at g;obtain⟨k,hk,g⟩:=oX g;obtain⟨d0,hd,g⟩:=oY g;cases g
  refine⟨N1,ρ,y.1,y.2,M.nh,r.mono M.bn,ey,λv2 H2 N2 G i2 _=>?_⟩;have hv:=ot i2 hk;subst hv;rcases qq k hl (O.mono G.bn)with⟨v,d',e1,e2,i3⟩|⟨_,e2⟩
  ·rw[hd]at e2;cases e2
   exact⟨a,v,rfl,.inl ⟨_,k,_,.inl (G.nh _ _ (G.bn _ _ h)),rfl,e1.symm⟩,(q.into (M.trans G)).one G.nh i3⟩
  ·rw[hd]at e2;cases e2
 |_=>simp[L4]at g
@[simp] def P4:D->D->OB
 |y,.dk ks vs=>(km y).map λk=>(.bl (cm ks vs k).isSome,false)
 |_,_=>none
@[simp] def qr:D->D->OB
 |y,.dk ks vs=>(km y).map λk=>(.bl (!(cm ks vs k).isSome),false)
 |_,_=>none
def tQ {κ:Type}[DecidableEq κ]{K:Frag}{B:Hp}{k:κ}{ks:List κ}{vs:LV}{ds:LD}(hl:ks.length=vs.length)(hs:IsL K B vs ds):(jO (ks.zip vs) k).isSome=(cm ks ds k).isSome:=by
 rcases qq k hl hs with⟨v,d,g,e2,_⟩|⟨g,e2⟩
 ·rw[g,e2];rfl
 ·rw[g,e2];rfl
def CY {fi O:FE}(hu:X.A.units+1<cLine)(hi:JE X i fi)(T:JE X o O)(hm:behindInMarks .NotIn o=false:=by first|exact jb _ (by decide) (by decide)|rfl):JT X (.Compare i [.NotIn] [o] pos) (bp (f2 qr fi O)):=by
 refine PT.to (Ko (C7 hu hi T) hm) λσ H Q q=>?_;obtain⟨B,ρ,d,bb,U,r,g,q⟩:=zJ q;obtain⟨y,ey,g⟩:=oX g;obtain⟨x,ex,g⟩:=oX g;refine⟨B,ρ,y.1,y.2,U,r,ey,λv2 H1 N1 G i2 _=>⟨N1,ρ,x.1,x.2,G.nh,r.mono G.bn,ex,λv H2 N2 M i1 ff=>?_⟩⟩;obtain⟨xd,xb⟩:=x;cases i1 with
 |@dk a ks vs ds ob h hl hs=>
  simp only[qr]at g;obtain⟨k,hk,g⟩:=oY g;cases g
  have hv:=ot i2 hk;subst hv;refine⟨a,jO (ks.zip vs) k,rfl,.inl ⟨_,k,_,.inl (M.nh _ _ h),rfl,rfl⟩,?_⟩;rw[tQ hl hs];exact(q.into (G.trans M)).one M.nh (.bl _)
 |_=>simp[qr]at g
end
noncomputable def cV {κ:Type}[DecidableEq κ](ks:List κ)(k:κ):List κ:=if k∈ks then ks else ks++[k]
noncomputable def cW {κ α:Type}[DecidableEq κ](ks:List κ)(xs:List α)(k:κ)(x:α):List α:=if k∈ks then List.zipWith (λk' g=>if k'=k then x else g) ks xs else xs++[x]
theorem Bq {κ:Type}[DecidableEq κ](k:κ):∀ {ks:List κ}{vs:LV},ks.length=vs.length->((ks.zip vs).any λkv=>decide (kv.1=k))=decide (k∈ks)
 |[],_,_=>by simp
 |k'::ks,[],h=>by simp at h
 |k'::ks,v::vs,h=>by
  have g:=Bq k (ks:=ks) (vs:=vs) (by simpa using h);rw[zip_cons_cons,any_cons,g];by_cases e:k'=k
  ·simp[e]
  ·have G:¬k=k':=λz=>e z.symm;simp[e,G]
theorem Br {κ:Type}[DecidableEq κ](k:κ)(v:V):∀(ks:List κ)(vs:LV),(ks.zip vs).map (λkv=>if kv.1=k then (kv.1,v)else kv)=ks.zip (List.zipWith (λk' g=>if k'=k then v else g) ks vs)
 |[],_=>by simp
 |_::_,[]=>by simp
 |k'::ks,w::vs=>by
  rw[zip_cons_cons,uY,Br k v ks vs,zipWith_cons_cons,zip_cons_cons];by_cases e:k'=k
  ·simp[e]
  ·simp[e]
def pi {κ:Type}[DecidableEq κ]{ks:List κ}{vs:LV}(hl:ks.length=vs.length)(k:κ)(v:V):lW (ks.zip vs) k v=(cV ks k).zip (cW ks vs k v):=by
 unfold lW cV cW;rw[Bq k hl];by_cases h:k∈ks
 ·rw[if_pos (decide_eq_true h),if_pos h,if_pos h,Br]
 ·rw[if_neg (by simpa using h),if_neg h,if_neg h,List.zip_append hl];rfl
def mw {κ α:Type}[DecidableEq κ]{ks:List κ}{xs:List α}(hl:ks.length=xs.length)(k:κ)(x:α):(cV ks k).length=(cW ks xs k x).length:=by
 unfold cV cW;split<;>simp[hl]
theorem IsL.zipWith {κ:Type}[DecidableEq κ]{K:Frag}{B:Hp}{k:κ}{v:V}{d:D}(i:Is K B v d):∀ {ks:List κ}{vs:LV}{ds:LD},IsL K B vs ds->IsL K B (List.zipWith (λk' g=>if k'=k then v else g) ks vs) (List.zipWith (λk' g=>if k'=k then d else g) ks ds)
 |[],_,_,_=>by simpa using IsL.nil
 |_::_,_,_,.nil=>by simpa using IsL.nil
 |k'::ks,_,_,.cons h t=>by
  rw[zipWith_cons_cons,zipWith_cons_cons];refine .cons ?_ (IsL.zipWith i t);by_cases e:k'=k
  ·rw[if_pos e,if_pos e];exact i
  ·rw[if_neg e,if_neg e];exact h
def IsL.put {κ:Type}[DecidableEq κ]{K:Frag}{B:Hp}{k:κ}{v:V}{d:D}(i:Is K B v d){ks:List κ}{vs:LV}{ds:LD}(h:IsL K B vs ds):IsL K B (cW ks vs k v) (cW ks ds k d):=by
 unfold cW;split
 ·exact h.zipWith i
 ·exact h.append (.cons i .nil)
section
variable {K:Frag}{E:Ends}{σ:St}{H:Hp}
noncomputable def yk (i:Nat):FS:=λρ=>some (.nx (ρ.set i (some (.dk [] [],true))))
noncomputable def ER (i:Nat):FS:=λρ=>some (.nx (ρ.set i (some (.dt [] [],true))))
def dC.newBox (s:dC K B0 H0 N H σ ρ)(i:Nat)(hp:H p=none)(hb:∀C,Bx K C ob dd):dC K B0 H0 (upd N p ob) (upd H p ob) (σ.set i (some (.ref p))) (ρ.set i (some (dd,true))):=by
 have x:=Ext.laid (o:=ob) s.ext.nh hp;have s1:=s.grow x;have g:N p=none:=s.ext.nh.free hp;have G:¬own σ ρ p:=λz=>by obtain⟨O,⟨q,_⟩,_⟩:=s.owned z;rw[g]at q;cases q
 have c:aW (dn N (own σ ρ)) (dn (upd N p ob) (λb=>own σ ρ b∨b=p)):=dF λb u e q=>⟨x.bn _ _ e,λz=>z.elim q λz=>by subst z;rw[g]at e;cases e⟩;refine s1.bindOwn aC (s.ext.hh.free hp) (λj e q z=>G ⟨j,e,q,z⟩) (λj e _ q=>?_) (λj e _ q=>?_) (hb _)
 ·obtain⟨w,h1,h2⟩:=s.sh j e q;exact⟨w,h1,h2.mono c⟩
 ·obtain⟨M,o',h1,h2,_,h4⟩:=s.ow j e q;exact⟨M,o',h1,x.bn _ _ h2,h4.mono c⟩
def ES (q:lS K (yk i) E σ H):uA DU (jd i) E σ H:=by
 obtain⟨B0,H0,ρ,r,⟨N,s⟩,e,p⟩:=q;cases e
 exact λa ob ha=>p _ _ ⟨_,s.newBox i ha λ_=>.dk (ks:=[]) (vs:=[]) rfl .nil⟩
def ET (q:lS K (ER i) E σ H):uA DV (jd i) E σ H:=by
 obtain⟨B0,H0,ρ,r,⟨N,s⟩,e,p⟩:=q;cases e
 exact λa ha=>p _ _ ⟨_,s.newBox i ha λ_=>.dt (ks:=[]) (vs:=[]) rfl .nil⟩
def ym (i:Nat)(G M:FE):FS:=λρ=>match ρ[i]? with
 |some (some (.dk ks vs,true))=>(M ρ).bind λv=>(G ρ).bind λk=>(km k.1).bind λg=>if bg v.1=true/\ks.length<sizeLine then some (.nx (ρ.set i (some (.dk (cV ks g) (cW ks vs g v.1),true))))else none
 |_=>none
def EU {i:Nat}{g G:FE}(q:lS K (ym i g G) E σ H):AD (mV i) (tD K g) (tD K G) E σ H:=by
 obtain⟨B0,H0,ρ,r,⟨N,s⟩,e,p⟩:=q;unfold ym at e;split at e
 ·rename_i ks ds ei;obtain⟨v,O,e⟩:=oX e;obtain⟨k,ek,e⟩:=oX e;obtain⟨T,hk,e⟩:=oX e;split at e
  ·rename_i hx;cases e
   refine⟨N,ρ,v.1,v.2,s.ext.nh,s.rep,O,λv1 H1 N1 U i1 _=>?_⟩;have s1:=s.grow U;obtain⟨a,o,h1,h2,h3,h4⟩:=s1.ow i _ ei;refine⟨.ref a,h1,N1,ρ,k.1,k.2,s1.ext.nh,s1.rep,ek,λv2 H2 N2 M i2 _=>?_⟩;have s2:=s1.grow M;have hv:=ot i2 hk;subst hv;obtain⟨a',o',k1,k2,k3,k4⟩:=s2.ow i _ ei;rw[h1]at k1;cases k1
   cases k4 with
   |@dk ks vs ds hl h5 ob=>
    refine⟨a,rfl,.inl ⟨_,T,_,s2.ext.nh _ _ k2,rfl,?_,λWl=>?_⟩⟩
    ·rw[length_zip];omega
    ·rw[pi hl];exact p σ _ ⟨_,s2.writeB ei h1 (.dk (mw hl _ _) (h5.put (s2.flat (i1.mono M.bn) hx.1)))⟩
  ·cases e
 ·cases e
end
section
variable {X:Cx}{pos:Pos}{e k:Expr}
def wj (g:X.N.Nodup)(hi:X.N[i]? = some x:=by rfl)(hx:DC X.env.scope x:=by first|exact Or.inl rfl|exact Or.inr rfl)(hs:swapsWith (.Dict [] [] dp) (some (.Name x p)) pos.line X.env=pure false:=by rfl)
  (hf:X.fn x=true∨X.env.scope.names.lookup x=some .local:=by first|exact .inl rfl|exact .inr rfl):JS X (.Assign [.Name x p] (.Dict [] [] dp) pos) (yk i):=PS.to (pB g hi hx DW hs hf) λ_ _ _ q=>ES q
def HU (g:X.N.Nodup)(hi:X.N[i]? = some x:=by rfl)(hx:DC X.env.scope x:=by first|exact Or.inl rfl|exact Or.inr rfl)(hs:swapsWith (.Dict [] [] dp) (some (.Name x p)) pos.line X.env=pure false:=by rfl)
  (hf:X.fn x=true∨X.env.scope.names.lookup x=some .local:=by first|exact .inl rfl|exact .inr rfl):JS X (.Assign [.Name x p] (.Dict [] [] dp) pos) (ER i):=PS.to (pB g hi hx DX hs hf) λ_ _ _ q=>ET q
def HV (hu:X.A.units+1<cLine)(hv:JE X e fv)(hk:JE X k fk)(M:X.N[i]? = some y:=by rfl)(g:Ki X.env.scope y:=by first|exact Or.inl rfl|exact Or.inr (Or.inl rfl)|exact Or.inr (Or.inr rfl))(hd:(y == ("__debug__" : Str))=false:=by decide)
  (G:(y == ("__classdict__" : Str))=false:=by decide) (hs:swapsWith e (some (.Subscript (.Name y py) k pt)) pos.line X.env=pure false:=by rfl):JS X (.Assign [.Subscript (.Name y py) k pt] e pos) (ym i fk fv) :=
 PS.to (uL hu (pA M g hd G) hk hv hs) λ_ _ _ q=>EU q
end
section
variable {prog:Program}{w:World}{A:Around}{E:QV}{s:Shared}
abbrev L6 (h:Heap)(z TI TO g:Addr)(f:Bool):Prop:=h.get? z=some { cls:=.type "zip",dict:=none,data:=.fields #[rawInt g,.bool f,.bool false,.ref TI,.ref TO],slots:=#[] }
end
def Sz (k1 k2:Bool)(z TI TO G M O T S:Addr)(i:Nat)(h:Heap):Prop :=
 IsPair h TI (.ref G) (.ref M)/\Bc k1 h G O i/\Bc k2 h M T i/\((IsZip h z TI TO .none/\∃a b,IsPair h TO a b)∨∃g f U oO,L6 h z TI TO g f/\h.get? g=some U/\g∉[z,TI,TO,G,M]/\g≠S/\h.get? TO=some oO)
section
variable {prog:Program}{w:World}{A:Around}{E:QV}{s:Shared}{k1 k2:Bool}{z TI TO i1 i2 l1 l2 S:Addr}{j:Nat}{xs ys:AV}
def Sz.ty (st:Sz k1 k2 z TI TO i1 i2 l1 l2 S j h):∃o,h.get? z=some o/\o.cls=.type "zip":=by
 obtain⟨_,_,_,g⟩:=st;rcases g with⟨b1,_⟩|⟨G,f,M,O,b1,_⟩
 ·exact⟨_,b1,rfl⟩
 ·exact⟨_,b1,rfl⟩
end
def qt (h:H a=none):aW H (upd H a o):=λb u e=>by rw[aJ (bd e h)];exact e
end DL
namespace DL
open PySem PySem.Spec PyProof.Rows
def wl:typeLookup (.type "list") "keys" = pure none:=by rw[typeLookup_type,builtinLookup_eq_fast];kernel_rfl
def CZ 
  (hx:s.heap.get? a=some { cls:=.type "list",dict:=none,data:=.seq xs k,slots:=sl }) (O:A.handled=none)
  (h:∀h' tk,(∀b o,s.heap.get? b=some o->h'.get? b=some o)->Q none { s with heap:=h',toks:=tk }):
  wpAny (model prog w) A (getAttr? (.ref a) "keys") Q E s:=by
 obtain⟨hp,g,d,tk,os⟩:=s;have M:∀G,(⟨hp,g,d,G,os⟩:Shared).TypeIs (.ref a) "list":=λ_=>⟨_,hx,rfl⟩;have f1:=sub_AttributeError;have f3:=slot_list_getattribute.lookup;have f4:=slot_list_getattribute.bind (.ref a);have f5:=am_list_getattr_none;unfold getAttr? getAttrBy? getAttrBy;repeat (any_goals (first|assumption|exact M _|((with_reducible show wpAny _ _ (call (Value.builtin "list.__getattribute__") _ _) _ _ _);refine call_meets slot_list_getattribute (M _) am_entry_list_getattribute (PySem.F.args_list_getattribute_2 _ _) (meets_getattribute_miss_list a xs k sl "keys" _ wl (by decide) (by decide)) ⟨hx,O,λh' G e hx'=>?_⟩)|wp_step))
 obtain⟨t',T,he⟩:=hx'.there;show wpAny _ _ (getattributeRaised _ _ _ _ _ _ _) _ _ _;unfold getattributeRaised;repeat (any_goals (first|assumption|wp_step))
 exact h _ _ hx'.of.keeps
end DL
namespace DL
open PySem PySem.Spec PyProof.Rows L2
def iS:LD->Option (List (dD×D))
 |[]=>some []
 |.tup [k,v]::r=>(km k).bind λg=>(iS r).map λl=>(g,v)::l
 |_=>none
noncomputable def qu (a:LK×LD)(p:dD×D):LK×LD:=(cV a.1 p.1,cW a.1 a.2 p.1 p.2)
noncomputable def bT (l:List (dD×D)):LK×LD:=l.foldl qu ([],[])
def qw (l:List (dD×D))(p:dD×D):bT (l++[p])=qu (bT l) p:=by unfold bT;rw[foldl_append];rfl
theorem qx:∀ {ds:LD}{l:List (dD×D)},iS ds=some l->l.length=ds.length
 |[],l,h=>by simp[iS]at h;subst h;rfl
 |d::r,l,h=>by
  unfold iS at h;split at h
  ·rename_i h0;cases h0
  ·rename_i k v g h0;cases h0
   obtain⟨G,_,h⟩:=oX h;obtain⟨M,h1,rfl⟩:=oY h;simp[qx h1]
  ·cases h
theorem qy:∀ {ds:LD}{l:List (dD×D)}{i:Nat}{d:D},iS ds=some l->ds[i]? = some d->∃k v g,d=.tup [k,v]/\km k=some g/\l[i]? = some (g,v)
 |[],l,i,d,_,h=>by simp at h
 |d0::r,l,i,d,h,hi=>by
  unfold iS at h;split at h
  ·rename_i h0;cases h0
  ·rename_i k v G h0;cases h0
   obtain⟨g,h2,h⟩:=oX h;obtain⟨M,h1,rfl⟩:=oY h;cases i with
   |zero=>simp at hi;subst hi;exact⟨k,v,g,rfl,h2,rfl⟩
   |succ i=>simp only[getElem?_cons_succ]at hi ⊢;exact qy h1 hi
  ·cases h
def EV (l:List (dD×D)):∀a:LK×LD,a.1.length=a.2.length->(l.foldl qu a).1.length=(l.foldl qu a).2.length/\(l.foldl qu a).1.length<=a.1.length+l.length:=by
 induction l with
 |nil=>intro a h;exact⟨h,vT _⟩
 |cons p l g=>
  intro a h;have h1:(qu a p).1.length<=a.1.length+1:=by
   show(cV _ _).length<=_;unfold cV;split<;>simp
  have:=g (qu a p) (mw h _ _);rw[foldl_cons,vE];exact⟨this.1,by omega⟩
def Db (l:List (dD×D)):(bT l).1.length=(bT l).2.length/\(bT l).1.length<=l.length:=by
 have:=EV l ([],[]) rfl;exact⟨this.1,vR this.2 (by simp)⟩
def tR:entryFor table "dict.update.loop" = some Builtin.«dict.update.loop»:=entryFor_of_tree (by kernel_rfl)
def kQ:plainId "dict.update.loop" = true:=by decide +kernel
section
variable {X:Cx}{ae:AO}{σ:St}{B H0:Hp}{A:Around}{R:Result->Shared->Prop}{it l d:Addr}{us:LV}{ds:LD}{j0:List (dD×D)}
def Ag (hA:A.handled=none)(nl:l≠it)(nd:d≠it)(hl:gP X.K B l us)(il:IsL X.K B us ds)(hp:iS ds=some j0)
  (hR:∀g N vs ob s',Inv X ae σ (upd g d (.dK ((bT j0).1.zip vs) ob)) s'->g d=none->Ext B N H0 g->(bT j0).1.length=vs.length->IsL X.K N vs (bT j0).2->R (.ok (.ret .none)) s'):
  ∀(k i:Nat)(tk:Nat)(s:Shared)(g N:Hp)(vs:LV)(ob:Obj),ds.length - i=k->i<=ds.length->Inv X ae σ (upd g d (.dK ((bT (j0.take i)).1.zip vs) ob)) s->g d=none->Ext B N H0 g->mW X ae (upd g d (.dK ((bT (j0.take i)).1.zip vs) ob)) it ->
   s.heap.IsListIter it l i->(bT (j0.take i)).1.length=vs.length->IsL X.K N vs (bT (j0.take i)).2 ->
   codeAny (model X.prog X.w) A (.builtin "dict.update.loop" ⟨[.ref d,.ref it,.int i tk,.none],[]⟩) R s:=by
 have n1:=il.length;have n2:=qx hp;intro k;induction k with
 |zero=>
  intro i tk s g N vs ob hk hi I hc G fp st hz hv;have Mu:i=ds.length:=by omega
  have sm:aW B (upd g d (.dK ((bT (j0.take i)).1.zip vs) ob)):=(G.bn.trans G.nh).trans (qt hc);obtain⟨its,r1,p1,z1⟩:=I.list (sm.seq hl);have e1:=r1.length;refine codeAny_builtin tR ?_;rw[Around.under_plainId kQ _];show wpAny _ A.in1 (pyNext (.ref it)>>=_) _ _ s;refine wX (wpAny_pyNext_list_end (A:=A.in1) hA st p1.isList (by simp;omega) λh' JZ=>?_);show wpAny _ _ (Builtin.Dict.addKeywords d []>>=_) _ _ _;refine wX (wY (wY ?_));have U:=oZ (t':=s.toks) (h':=h') (ch:=[it]) I (λb hb=>by rw[uT hb];exact fp) λb o hb e=>JZ b o (λq=>hb (by simp[q])) e;rw[Mu,←n2,take_length]at U hz hv;exact hR g N vs ob _ U hc G hz hv
 |succ k ih=>
  intro i tk s g N vs ob hk hi I hc G fp st hz hv;have O:i<ds.length:=by omega
  have sm:aW B (upd g d (.dK ((bT (j0.take i)).1.zip vs) ob)):=(G.bn.trans G.nh).trans (qt hc);obtain⟨its,r1,p1,z1⟩:=I.list (sm.seq hl);obtain⟨kd,vd,M,ed,ek,el⟩:=qy hp (vU O);obtain⟨x,hx,ix⟩:=il.get (vU O);rw[ed]at ix;cases ix with
  |@tup T xs _ hT hxs=>
   cases hxs with
   |cons ik r=>
    cases r with
    |cons iv r=>
     cases r
     rename_i xk xv;have Wm:=ot ik ek;subst Wm;obtain⟨u,hu,ru⟩:=r1.get hx;cases (show u=Value.ref T from ru)
     refine codeAny_builtin tR ?_;rw[Around.under_plainId kQ _];show wpAny _ A.in1 (pyNext (.ref it)>>=_) _ _ s;refine wX (wpAny_pyNext_list_item (A:=A.in1) st p1.isList (x:=.ref T) (by simpa using hu) λh' Rh hs=>?_);have U:=oZ (t':=s.toks) (h':=h') (ch:=[it]) I (λb hb=>by rw[uT hb];exact fp) λb o hb e=>hs.extBut b o (λq=>hb (by simp[q])) e;obtain⟨ps,r2,p2,z2⟩:=U.tuple (bu sm hT);obtain⟨uk,uv,rfl,rk,rv⟩:=r2.two;have Wn:Shared.TypeIs { s with heap:=h' } (.ref T) "tuple":=by obtain⟨o,e,c,_⟩:=p2;exact⟨o,e,c⟩
     dsimp only;refine wX (wpAny_holding (wX (wpAny_tryCatch ?_)));unfold Builtin.Dict.pairItems;refine wX (wpAny_typeOf Wn ?_);obtain⟨oT,eT,cT,nT,dT⟩:=p2;rw[if_pos (by decide)];refine wX (wpAny_seqItems eT dT (wY ?_));show wpAny _ _ (holding [uk,uv] (dictSet d uk uv)) _ _ _;obtain⟨zz,Rt,Wo,TC,dd⟩:=oe U.hok (a:=d) aC;have Wp:Wo.length<=sizeLine:=by rw[←TC.length];exact zz
     have nk:((bT (j0.take i)).1.zip vs).length<sizeLine:=by
      have a1:=(Db (j0.take i)).2;have a2:=z1;rw[length_take]at a1;rw[length_zip];omega
     refine wpAny_holding (wpAny_dictSet_pairs (hsz:=Wp) (pF rk) dd λh2 PR PU=>?_);have Mr:(lW ((bT (j0.take i)).1.zip vs) M xv).length<=sizeLine:=by have:=jR ((bT (j0.take i)).1.zip vs) M xv;omega
     obtain⟨TD,MJ⟩:∃q,h2.get? d=some q:=let ⟨q,_,_,hq,_⟩:=PR;⟨q,hq⟩;have I2:=uK (t':=s.toks+1) U (a:=d) (ob:=.dK (lW ((bT (j0.take i)).1.zip vs) M xv) TD) (by rw[aC];exact True.intro) PU ⟨_,MJ⟩ (DS Mr Rt (TC.put M rv) PR MJ);rw[G0,pi hz]at I2;have et:j0.take (i+1)=j0.take i++[(M,vd)]:=by rw[take_add_one,el];rfl
     have TF:(bT (j0.take (i+1))).1=cV (bT (j0.take i)).1 M:=by rw[et,qw];rfl
     have Wq:(bT (j0.take (i+1))).2=cW (bT (j0.take i)).1 (bT (j0.take i)).2 M vd:=by rw[et,qw];rfl
     refine wY ⟨plainId_quiet kQ _,?_⟩;refine ih (i+1) 0 _ g N (cW (bT (j0.take i)).1 vs M xv) TD (by omega) O (by rw[TF];exact I2) hc G ?_ ?_ ?_ ?_
     ·obtain⟨f0,f1⟩:=fp;refine⟨?_,f1⟩;rw[aJ nd.symm]at f0 ⊢;exact f0
     ·exact Rh.at λo e=>(PU.2 it nd.symm).trans e
     ·rw[TF];exact mw hz _ _
     ·rw[Wq];exact hv.put (iv.mono G.bn)
end
@[simp] def jC:LD->OB
 |[.lst ds]=>(iS ds).map λg=>(.dk (bT g).1 (bT g).2,false)
 |_=>none
def L7:bootBuiltins "dict" = some (.type "dict"):=by decide +kernel
section
variable {X:Cx}
def L8 (O:X.calm=true):bP X (.type "dict") (AE X.K jC):=by
 intro ae s σ H xs us Q I r h;obtain⟨B,Xy,d0,bb,sB,i0,M,q⟩:=h;cases i0 with
 |nil=>simp[jC]at M
 |cons i1 i2=>
  cases i2 with
  |cons _ _=>cases i1<;>simp[jC]at M
  |nil=>
   cases i1<;>try (simp[jC]at M;done)
   rename_i l ws ds hl il;simp only[jC]at M;obtain⟨T,hp,M⟩:=oY M;cases M
   obtain⟨u,rfl,rx⟩:=gK r;cases rx
   have hA:X.A.handled=none:=I.ok.hd O;refine callType_codes (Q₁:=λobj G=>obj=.ref s.heap.objs.size/\G={ s with heap:=s.heap.push { cls:=.type "dict",data:=.dict #[] } }) PySem.F.kt_called_dict (PySem.F.kt_typeCall_dict_1 _) PySem.F.entry_dict_init (kt_code_dict_new _ ⟨rfl,rfl⟩) ?_;rintro obj G ⟨rfl,rfl⟩;have I1:Inv X ae σ (upd H s.heap.objs.size (.dK [] { cls:=.type "dict",data:=.dict #[] })) { s with heap:=s.heap.push { cls:=.type "dict",data:=.dict #[] } }:=I.laid (t':=s.toks) (λb o e=>vZ _ e) (vT _) (xl s.heap I.big);have U:H s.heap.objs.size=none:=I.fresh;have hT:Shared.TypeIs { s with heap:=s.heap.push { cls:=.type "dict",data:=.dict #[] } } (.ref s.heap.objs.size) "dict":=⟨_,vY _ rfl,rfl⟩;refine⟨hT,PySem.F.args_dict_init_2 _ _,?_⟩;unfold Builtin.«dict.__init__»;refine wX ?_;unfold Builtin.Dict.selfAndRest;refine wX (wpAny_notOrdered_dict hT ?_);show wpAny _ _ (pure (s.heap.objs.size,[Value.ref l])) _ _ _;refine wY ?_;show wpAny _ _ (Builtin.Dict.updateFrom "dict.__init__" s.heap.objs.size (.ref l) [] .none) _ _ _;unfold Builtin.Dict.updateFrom;have sm:aW B (upd H s.heap.objs.size (.dK [] { cls:=.type "dict",data:=.dict #[] })):=sB.trans (qt U);obtain⟨its,r1,p1,z1⟩:=I1.list (sm.seq hl);have pl:=p1.isList;obtain⟨ol,nl,g,cl,TH,dl⟩:=p1;have RF:Shared.TypeIs { s with heap:=s.heap.push { cls:=.type "dict",data:=.dict #[] } } (.ref l) "list":=⟨ol,g,cl⟩;refine wX (wpAny_typeOf RF ?_);rw[if_pos (by decide)];obtain⟨oc,od,oo,os⟩:=ol;simp only at cl TH dl;subst cl TH dl;refine wX (CZ g (by exact hA) λh' tk hk=>?_);dsimp only[Option.isNone_none];rw[if_pos rfl];have I2:Inv X ae σ (upd H s.heap.objs.size (.dK [] { cls:=.type "dict",data:=.dict #[] })) { s with heap:=h',toks:=tk }:=I1.kept (t':=tk) hk;refine wX (wpAny_rule ?_);refine wX (wpAny_pyIter_list (items:=its.toArray) ⟨_,hk _ _ g,rfl,nl,rfl⟩ ?_);have I3:Inv X ae σ (upd H s.heap.objs.size (.dK [] { cls:=.type "dict",data:=.dict #[] })) { s with heap:=h'.push { cls:=.type "list_iterator",data:=.fields #[.ref l,.int 0 0] },toks:=tk }:=I2.kept (t':=tk) λb o e=>vZ _ e;have ld:s.heap.objs.size<h'.objs.size:=vX (hk _ _ (vY _ rfl));have ll:l<h'.objs.size:=vX (hk _ _ g);refine wY ⟨plainId_quiet kQ _,Ag (A:=X.A.in1) (B:=B) (H0:=H) (l:=l) (d:=s.heap.objs.size) (it:=h'.objs.size) hA (vS ll) (vS ld) hl il hp (λHc N vs ob s' I' O6 xt hz hv=>?_) _ 0 0 _ H B [] _ rfl (uN _) I3 U (Ext.refl sB) (I2.fpOk (vT _) (I2.hok.fresh (vT _))) ⟨_,vY _ rfl,rfl,rfl⟩ rfl .nil⟩;refine⟨rfl,.ref s.heap.objs.size,_,I',rfl,?_⟩;have x3:=xt.trans (Ext.laid (o:=.dK ((bT T).1.zip vs) ob) xt.nh O6);exact q _ _ _ x3 (.dk aC hz (hv.mono (Ext.laid (o:=.dK ((bT T).1.zip vs) ob) xt.nh O6).bn)) (by simp)
end
def Gp (h:n+40<cLine):n+1<cLine:=by omega
@[simp] noncomputable def L9:D->D->OB
 |.lst ds,.int k=>if 0<=k/\ds.length*k.toNat<=1000/\k<=1000 then some (.lst (List.replicate k.toNat ds).flatten,true)else none
 |_,_=>none
@[simp] def Dc (fa g:FE):FE:=λρ=>(fa ρ).bind λx=>if x.2=true then (g ρ).bind λy=>L9 x.1 y.1 else none
theorem IsL.rep {K:Frag}{H:Hp}{vs:LV}{ds:LD}(h:IsL K H vs ds):∀k:Nat,IsL K H (List.replicate k vs).flatten (List.replicate k ds).flatten
 |0=>.nil
 |k+1=>by rw[replicate_succ,replicate_succ,flatten_cons,flatten_cons];exact h.append (IsL.rep h k)
section
variable {X:Cx}{a b:Expr}{pos:Pos}
def EW {fa U:FE}(ha:JE X a fa)(hb:JE X b U):JE X (.BinOp a .Mult b pos) (Dc fa U):=by
 refine PE.to (Jj KJ ha hb) λσ H Q q=>?_;obtain⟨B,ρ,d,bb,sB,r,g,q⟩:=q;obtain⟨x,ex,g⟩:=oX g;split at g
 ·rename_i hx;obtain⟨⟨yd,yb⟩,ey,g⟩:=oX g;refine⟨B,ρ,x.1,x.2,sB,r,ex,λv H1 N1 O i1 fr=>⟨N1,ρ,yd,yb,O.nh,r.mono O.bn,ey,λu H2 N2 G i2 T=>?_⟩⟩;obtain⟨a0,vs,ds,rfl,e1,h0,h1,il⟩:=fr hx;rw[e1]at g;clear T;cases i2<;>try (simp[L9]at g;done)
  rename_i k;simp only[L9]at g;split at g
  ·rename_i hk;cases g
   have hl:=il.length;refine⟨a0,k,vs,rfl,rfl,G.nh _ _ (G.bn _ _ h1),by omega,by omega,by rw[hl];exact vR hk.2.1 (by decide:(1000:Nat)<=sizeLine),λp hp=>?_⟩;have x3:=Ext.laid (o:=.lst (List.replicate k.toNat vs).flatten) G.nh hp;have M:=((il.mono G.bn).mono x3.bn).rep k.toNat;exact q _ _ _ ((O.trans G).trans x3) (.lst (gP.of aC) M) λ_=>⟨_,_,_,rfl,rfl,(O.trans G).hh.free hp,aC,M⟩
  ·cases g
 ·cases g
end
def iG:LD->Option LK
 |[]=>some []
 |d::ds=>(km d).bind λk=>(iG ds).map (k :: ·)
theorem Ah {K:Frag}{B:Hp}:∀ {vs:LV}{ds:LD}{ks:LK},IsL K B vs ds->iG ds=some ks->vs=ks.map kV
 |_,_,ks,.nil,e=>by simp[iG]at e;subst e;rfl
 |_,_,ks,.cons i is,e=>by
  simp only[iG]at e;obtain⟨k,h1,e⟩:=oX e;obtain⟨r,h2,rfl⟩:=oY e;rw[ot i h1,Ah is h2];rfl
@[simp] def EX (G:FE)(fa:FA):FE:=λρ=>(G ρ).bind λx=>(fa ρ).bind λds=>match x.1 with
 |.dt g vs=>if ds.length<=sizeLine then (iG ds).map λk=>((cm g vs k).getD .non,false)else none
 |_=>none
section
variable {X:Cx}{o:Expr}{es:QD}{pos:Pos}
def EY {cG bR G:Pos}{M:Nat}{fo:FE}{fa:FA}(hu:X.A.units+1<cLine)(ho:JE X o fo)(ha:JA X es fa)(m:M1 X o "get" cG (.Tuple es M G) bR):JE X (.Call (.Attribute o "get" cG) [.Tuple es M G] [] bR) (EX fo fa):=by
 refine PE.to (xm hu ho (z5 ha) m) λσ H Q q=>?_;obtain⟨B,ρ,d,bb,sB,r,g,q⟩:=q;obtain⟨x,ex,g⟩:=oX g;obtain⟨ds,ey,g⟩:=oX g;refine⟨B,ρ,x.1,x.2,sB,r,ex,λv H1 N1 M i1 ff=>?_⟩;obtain⟨xd,xb⟩:=x;cases i1 with
 |@dt a ks vs Mm h hl hs=>
  simp only at g;split at g
  ·rename_i hz;obtain⟨k,hk,g⟩:=oY g;cases g
   refine⟨a,rfl,.inr ⟨_,.inl (M.nh _ _ h)⟩,N1,ρ,ds,M.nh,r.mono M.bn,ey,λus H2 N2 T i2=>?_⟩;have hv:=Ah i2 hk;have U:us.length<=sizeLine:=by rw[i2.length];exact hz
   refine⟨U,λp hp=>?_⟩;have O:=Ext.laid (o:=.tup us) T.nh hp;have Wr:N2 a=some (.dT (ks.zip vs)):=T.bn _ _ h;refine⟨jO (ks.zip vs) k,.inr ⟨_,k,p,.inl (O.nh _ _ (O.bn _ _ Wr)),rfl,by rw[aC,hv],rfl⟩,?_⟩;have PU:=(hs.mono T.bn).mono O.bn;rcases qq k hl PU with⟨v,d',e1,e2,i3⟩|⟨e1,e2⟩
   ·rw[e1];rw[e2]at q;exact(q.into ((M.trans T).trans O)).one O.nh i3
   ·rw[e1];rw[e2]at q;exact(q.into ((M.trans T).trans O)).one O.nh .non
  ·cases g
 |_=>simp at g
end
section
variable {K:Frag}{E:Ends}{σ:St}{H:Hp}
def tS (i:Nat)(G:FA)(M:FE):FS:=λρ=>match ρ[i]? with
 |some (some (.dt ks vs,true))=>(M ρ).bind λv=>(G ρ).bind λkd=>(iG kd).bind λg=>if bg v.1=true/\ks.length<sizeLine/\kd.length<=sizeLine then some (.nx (ρ.set i (some (.dt (cV ks g) (cW ks vs g v.1),true))))else none
 |_=>none
def EZ {i:Nat}{G:FA}{M:FE}(q:lS K (tS i G M) E σ H):AD (mV i) (Nt (KW K G)) (tD K M) E σ H:=by
 obtain⟨B0,H0,ρ,r,⟨N,s⟩,e,p⟩:=q;unfold tS at e;split at e
 ·rename_i ks ds ei;obtain⟨v,ev,e⟩:=oX e;obtain⟨kd,ek,e⟩:=oX e;obtain⟨kk,hk,e⟩:=oX e;split at e
  ·rename_i hx;cases e
   refine⟨N,ρ,v.1,v.2,s.ext.nh,s.rep,ev,λv1 H1 N1 x1 i1 _=>?_⟩;have s1:=s.grow x1;obtain⟨a,o,h1,h2,h3,h4⟩:=s1.ow i _ ei;refine⟨.ref a,h1,N1,ρ,kd,s1.ext.nh,s1.rep,ek,λus H2 N2 O T=>?_⟩;have s2:=s1.grow O;have hv:=Ah T hk;refine⟨by rw[T.length];exact hx.2.2,λpp hp=>?_⟩;have U:=Ext.laid (o:=.tup us) s2.ext.nh hp;have g:=s2.grow U;obtain⟨a',o',k1,k2,k3,k4⟩:=g.ow i _ ei;rw[h1]at k1;cases k1
   cases k4 with
   |@dt ks vs ds hl h5=>
    refine⟨a,rfl,.inr ⟨_,kk,pp,g.ext.nh _ _ k2,rfl,by rw[aC,hv],?_,?_⟩⟩
    ·rw[length_zip];omega
    ·rw[pi hl];exact p σ _ ⟨_,g.writeB ei h1 (.dt (mw hl _ _) (h5.put (g.flat ((i1.mono O.bn).mono U.bn) hx.1)))⟩
  ·cases e
 ·cases e
end
section
variable {X:Cx}{pos:Pos}{e:Expr}{es:QD}
def HW (hu:X.A.units+1<cLine)(hv:JE X e fv)(hk:JA X es fk)(M:X.N[i]? = some y:=by rfl)(g:Ki X.env.scope y:=by first|exact Or.inl rfl|exact Or.inr (Or.inl rfl)|exact Or.inr (Or.inr rfl))(hd:(y == ("__debug__" : Str))=false:=by decide)
  (G:(y == ("__classdict__" : Str))=false:=by decide) (hs:swapsWith e (some (.Subscript (.Name y py) (.Tuple es x1 Ml) pt)) pos.line X.env=pure false:=by rfl):JS X (.Assign [.Subscript (.Name y py) (.Tuple es x1 Ml) pt] e pos) (tS i fk fv) :=
 PS.to (uL hu (pA M g hd G) (z5 hk) hv hs) λ_ _ _ q=>EZ q
end
end DL
namespace L2
open PySem PySem.Spec PyProof.Rows
noncomputable def Q8 (a:Addr)(aG:List (dD×V))(ob:Obj):It:=⟨λi H=>H a=some (.dK aG ob)/\i<aG.length,λi H x H'=>H'=H/\∃k v,aG[i]? = some (k,v)/\x=kV k,λi H=>H a=some (.dK aG ob)/\aG.length<=i⟩
noncomputable def Q9 (a:Addr)(aG:List (dD×V))(ob:Obj):It:=⟨λi H=>H a=some (.dK aG ob)/\i<aG.length,λi H x H'=>H'=H/\∃k,aG[i]? = some (k,x),λi H=>H a=some (.dK aG ob)/\aG.length<=i⟩
def KV.get {aG:List (dD×V)}{vs:List (dD×Value)}(r:KV aG vs){i:Nat}{k:dD}{x:V}(h:aG[i]? = some (k,x)):∃u,vs[i]? = some (k,u)/\aU x u:=by
 unfold KV at r;induction r generalizing i with
 |nil=>simp at h
 |@cons p q ps O hq t g=>
  cases i with
  |zero=>
   cases (show p=(k,x)from vK h)
   obtain⟨G,M⟩:=q;exact⟨M,by rw[show k=G from hq.1];rfl,hq.2⟩
  |succ i=>exact g h
def J6 (h:(cq P w).is k u=true):aU (kV k) u:=by
 cases k with
 |inl i=>exact Value.isInt_shape h
 |inr z=>exact Value.isStrOf_shape h
section
variable {P:Program}{w:World}{H:Hp}{h:Heap}{a:Addr}
def lq (ok:la P w H h)(e:H a=some (.dK aG ob))(hd:ob.data=.dict es ep):∃vs,KV aG vs/\h.DictAt (cq P w) a vs ep:=by
 obtain⟨_,_,vs,r,o,g,G,h1,h2,h3,h4⟩:=oe ok e;rw[zF ok e]at h1;cases h1
 rw[hd]at h3;cases h3
 exact⟨vs,r,ob,es,zF ok e,h2,hd,h4⟩
def pj (ok:la P w H h)(e:H a=some (.dK aG ob)):∃es M,ob.data=.dict es M:=by
 obtain⟨_,_,vs,r,o,g,G,h1,h2,h3,h4⟩:=oe ok e;rw[zF ok e]at h1;cases h1
 exact⟨g,G,h3⟩
end
def De {P:Program}{w:World}{K:Frag}{tg:Expr}(a it:Addr)(aG:List (dD×V))(ob:Obj){es:Array DictEntry}{ep:Nat}(hd:ob.data=.dict es ep):Turn P w K tg (Q9 a aG ob) [it] it (λi h=>h.IsValIter it a i aG.length ep) where
 mem:=by simp
 obj:=λi h st b hb=>by
  have e:b=it:=by simpa using hb
  subst e;obtain⟨o,e,c,d⟩:=st;exact⟨o,e,λv z=>by rw[d]at z;cases z⟩
 keep:=λi h h' st k=>st.at λo e=>k it (by simp) o e
 item:=by
  intro X M hw O hc i ae s σ H E I hf st T;subst M hw O;obtain⟨U,G⟩:=T;obtain⟨vs,r,m⟩:=lq I.hok U hd;obtain⟨f0,f1,f2,f3,f4,f5⟩:=hf it (by simp);have hl:vs.length=aG.length:=(Paired.length r).symm;obtain⟨u,hu,ru⟩:=r.get (k:=aG[i].1) (x:=aG[i].2) (vU G);refine wpAny_pyNext_values_item (by rw[hl];exact st) m hu λh' g sb=>?_;rw[hl]at g;have I1:Inv X ae σ H { s with heap:=h' }:=I.turned (t':=s.toks) (λb o hb e=>(sb.2 b hb).trans e) f0 f1 f3 f4 f5;obtain⟨o,e,c,d⟩:=id g;exact⟨u,rfl,pC (s:={ s with heap:=h' }) e c d (by decide) ⟨aG[i].2,H,I1,ru,⟨rfl,aG[i].1,vU G⟩,g,λb hb=>(hf b hb).1⟩⟩
 done:=by
  intro X M hw O hc i ae s σ H E I hf st T;subst M hw O;obtain⟨U,Ms⟩:=T;obtain⟨vs,r,m⟩:=lq I.hok U hd;obtain⟨f0,f1,f2,f3,f4,f5⟩:=hf it (by simp);have hl:vs.length=aG.length:=(Paired.length r).symm;exact wpAny_pyNext_values_end (I.ok.hd hc) (by rw[hl];exact st) m (getElem?_eq_none (by omega)) λh' eb=>⟨rfl,I.turned (t':=s.toks) (λb o hb e=>eb b o hb e) f0 f1 f3 f4 f5⟩
 self:=λ_ _ _ _ _ st h=>wpAny_pyIter_valiter st h
def Df {P:Program}{w:World}{K:Frag}{tg:Expr}(a it:Addr)(aG:List (dD×V))(ob:Obj){es:Array DictEntry}{ep:Nat}(hd:ob.data=.dict es ep):Turn P w K tg (Q8 a aG ob) [it] it (λi h=>h.IsKeyIter it a i aG.length ep) where
 mem:=by simp
 obj:=λi h st b hb=>by
  have e:b=it:=by simpa using hb
  subst e;obtain⟨o,e,c,d⟩:=st;exact⟨o,e,λv z=>by rw[d]at z;cases z⟩
 keep:=λi h h' st k=>st.at λo e=>k it (by simp) o e
 item:=by
  intro X O hw T hc i ae s σ H E I hf st U;subst O hw T;obtain⟨hH,G⟩:=U;obtain⟨vs,r,m⟩:=lq I.hok hH hd;obtain⟨f0,f1,f2,f3,f4,f5⟩:=hf it (by simp);have hl:vs.length=aG.length:=(Paired.length r).symm;obtain⟨u,hu,ru⟩:=r.get (k:=aG[i].1) (x:=aG[i].2) (vU G);refine wpAny_pyNext_dict_item (by rw[hl];exact st) m hu λkey h' M g sb=>?_;rw[hl]at g;have I1:Inv X ae σ H { s with heap:=h' }:=I.turned (t':=s.toks) (λb o hb e=>(sb.2 b hb).trans e) f0 f1 f3 f4 f5;obtain⟨o,e,c,d⟩:=id g;exact⟨key,rfl,pC (s:={ s with heap:=h' }) e c d (by decide) ⟨kV aG[i].1,H,I1,J6 M,⟨rfl,aG[i].1,aG[i].2,vU G,rfl⟩,g,λb hb=>(hf b hb).1⟩⟩
 done:=by
  intro X O hw T hc i ae s σ H E I hf st U;subst O hw T;obtain⟨hH,Ms⟩:=U;obtain⟨vs,r,m⟩:=lq I.hok hH hd;obtain⟨f0,f1,f2,f3,f4,f5⟩:=hf it (by simp);have hl:vs.length=aG.length:=(Paired.length r).symm;exact wpAny_pyNext_dict_end (I.ok.hd hc) (by rw[hl];exact st) m (getElem?_eq_none (by omega)) λh' eb=>⟨rfl,I.turned (t':=s.toks) (λb o hb e=>eb b o hb e) f0 f1 f3 f4 f5⟩
 self:=λ_ _ _ _ _ st h=>wpAny_pyIter_keyiter st h
section
variable {X:Cx}{tg:Expr}
def Oe (G:TE):TI:=λσ H R=>G σ H λx g=>∃a aG ob,x=.ref a/\g a=some (.dK aG ob)/\R (Q8 a aG ob) g
def HX {o:Expr}{M:TE}(O:PE X o M):PI X tg o (Oe M):=by
 intro ae s σ H R I h;refine c8 (O ae s σ H _ I h) λv s1 ⟨x,T,g,U,a,aG,ob,ex,G,q⟩=>?_;subst ex;cases U
 obtain⟨es,ep,hd⟩:=pj g.hok G;obtain⟨vs,r,m⟩:=lq g.hok G hd;have hl:vs.length=aG.length:=(Paired.length r).symm;refine wpAny_pyIter_dict (oe g.hok G).2.1 m ?_;rw[hl];refine⟨s1.heap.objs.size,[s1.heap.objs.size],_,_,T,rfl,g.kept (t':=s1.toks) λb o e=>vZ _ e,Df a _ aG ob hd,⟨_,vY _ rfl,rfl,rfl⟩,λb hb=>?_,q⟩;have e:b=s1.heap.objs.size:=by simpa using hb
 subst e;exact g.fpOk (vT _) (g.hok.fresh (vT _))
def Of (G:TE):TI:=λσ H R=>G σ H λx g=>∃a aG ob,x=.ref a/\g a=some (.dK aG ob)/\R (Q9 a aG ob) g
def HY {o:Expr}{td:TE}{cG bR:Pos}(ho:PE X o td)(g:attributeBase o "values" X.env (eval o X.env)=eval o X.env:=by rfl)(G:(cG.endLine == bR.line)=true:=by rfl):PI X tg (.Call (.Attribute o "values" cG) [] [] bR) (Of td):=by
 intro ae s σ H R I h;refine wpAny_Call_method0_late g G (c8 (ho ae s σ H _ I h) λv s1 ⟨x,H1,M,r1,a,aG,ob,ex,O,q⟩=>?_);subst ex;obtain⟨h1,h2⟩:=zD M r1 (T:="dict") (.inr (.inr (.inl ⟨rfl,.inl ⟨aG,ob,O⟩⟩)));cases r1
 obtain⟨es,ep,hd⟩:=pj M.hok O;obtain⟨vs,r,m⟩:=lq M.hok O hd;have hl:vs.length=aG.length:=(Paired.length r).symm;refine⟨"dict","dict.values",plainAttrs_dict,PySem.F.slot_dict_values,PySem.F.type_dict_values,h1,h2,Calls.callWith_builtin rfl (PySem.evalArgs_none ?_)⟩;refine call_meetsIn PySem.F.slot_dict_values h1 PySem.F.entry_dict_values (PySem.F.args_dict_values_1 _) (meets_dict_values (cq X.prog X.w) a (oe M.hok O).2.1) ⟨⟨vs,m.dictOf⟩,?_⟩;have U:Inv X ae σ H1 { s1 with heap:=s1.heap.push { cls:=.type "dict_values",data:=.fields #[.ref a] } }:=M.kept (t':=s1.toks) λb o e=>vZ _ e;refine wpAny_pyIter_values (v:=s1.heap.objs.size) ⟨_,vY _ rfl,rfl,rfl⟩ (m.keep λb o e=>vZ _ e) ?_;rw[hl];refine⟨(s1.heap.push { cls:=.type "dict_values",data:=.fields #[.ref a] }).objs.size,[(s1.heap.push { cls:=.type "dict_values",data:=.fields #[.ref a] }).objs.size],_,_,H1,rfl,U.kept (t':=s1.toks) λb o e=>vZ _ e,De a _ aG ob hd,⟨_,vY _ rfl,rfl,rfl⟩,λb hb=>?_,q⟩;have e:b=(s1.heap.push { cls:=.type "dict_values",data:=.fields #[.ref a] }).objs.size:=by simpa using hb
 subst e;exact U.fpOk (vT _) (U.hok.fresh (vT _))
end
end L2
namespace DL
open PySem PySem.Spec PySem.W PyProof.Rows L2
noncomputable def kD:dD->D
 |.inl i=>.int i
 |.inr z=>.str z
def J7 {K:Frag}{B:Hp}(k:dD):Is K B (kV k) (kD k):=by
 cases k with
 |inl i=>exact .int i
 |inr z=>exact .str z
section
variable {K:Frag}{B:Hp}
def HZ {a:Addr}{ks:LK}{vs:LV}{ds:LD}{ob:Obj}(h:B a=some (.dK (ks.zip vs) ob))(hl:ks.length=vs.length)(hs:IsL K B vs ds):nq K (Q9 a (ks.zip vs) ob) B ds:=by
 intro i H s;have hz:(ks.zip vs).length=vs.length:=by rw[length_zip];omega
 refine⟨λd ed=>?_,λg=>⟨s _ _ h,by rw[hz,hs.length];exact g⟩⟩;obtain⟨v,M,iv⟩:=hs.get ed;have G:i<vs.length:=(vV M).1;refine⟨⟨s _ _ h,by rw[hz];exact G⟩,λy O hy=>?_⟩;obtain⟨rfl,k,e⟩:=hy;have:=(getElem?_zip_eq_some.mp e).2;rw[M]at this;cases this
 exact⟨B,.refl s,iv⟩
def Ia {a:Addr}{ks:LK}{vs:LV}{ob:Obj}(h:B a=some (.dK (ks.zip vs) ob))(hl:ks.length=vs.length):nq K (Q8 a (ks.zip vs) ob) B (ks.map kD):=by
 intro i H s;have hz:(ks.zip vs).length=ks.length:=by rw[length_zip];omega
 refine⟨λd ed=>?_,λg=>⟨s _ _ h,by rw[hz];rw[vI]at g;exact g⟩⟩;rw[vA]at ed;obtain⟨k0,ek,rfl⟩:=oY ed;have G:i<ks.length:=(vV ek).1;refine⟨⟨s _ _ h,by rw[hz];exact G⟩,λy M hy=>?_⟩;obtain⟨rfl,k,v,e,rfl⟩:=hy;have:=(getElem?_zip_eq_some.mp e).1;rw[ek]at this;cases this
 exact⟨B,.refl s,J7 _⟩
end
section
variable {X:Cx}{e:Expr}{tg:Expr}
@[simp] noncomputable def qz (f:FE):FA:=λρ=>(f ρ).bind λx=>match x.1 with|.dk _ ds=>some ds|_=>none
@[simp] noncomputable def Fa (f:FE):FA:=λρ=>(f ρ).bind λx=>match x.1 with|.dk ks _=>some (ks.map kD)|_=>none
def Bt (h:JE X e f)(g:attributeBase e "values" X.env (eval e X.env)=eval e X.env:=by rfl)(G:(cG.endLine == bR.line)=true:=by rfl):JI X tg (.Call (.Attribute e "values" cG) [] [] bR) (qz f):=by
 intro ae s σ H R I q;obtain⟨B,ρ,ds,O,r,T,q⟩:=q;obtain⟨⟨xd,xb⟩,ex,es⟩:=oX T;cases xd<;>try (cases es;done)
 cases es
 refine HY h g G ae s σ H R I ⟨B,ρ,_,_,O,r,ex,λv U N1 M i1 _=>?_⟩;cases i1 with
 |@dk a ks vs ds ob hd hl hs=>exact⟨a,_,ob,rfl,M.nh _ _ hd,q _ U N1 M (HZ hd hl hs)⟩
def Ib {f:FE}(h:JE X e f):JI X tg e (Fa f):=by
 intro ae s σ H R I q;obtain⟨B,ρ,ds,G,r,M,q⟩:=q;obtain⟨⟨xd,U⟩,ex,es⟩:=oX M;cases xd<;>try (cases es;done)
 cases es
 refine HX h ae s σ H R I ⟨B,ρ,_,_,G,r,ex,λv O N1 g T _=>?_⟩;cases T with
 |@dk a ks vs ds ob hd hl hs=>exact⟨a,_,ob,rfl,g.nh _ _ hd,q _ O N1 g (Ia hd hl)⟩
end
end DL
namespace DL
open PySem PySem.Spec PyProof.Rows L2
@[simp] abbrev dZ (i:Nat)(j:Int):FE:=f2 bK (ah i) (fC (.int j))
def aZ (F:Fn X.prog X.w X.K X.mg X.base k x f)(M:eW j X.A)(ha:JA X (e::es) fa)(hj:k<=j:=by decide)(O:Gl X x:=by rfl)(g:(x == ("__debug__" : Str))=false:=by decide)(he:starEach (e::es) X.env=(false,eval e X.env)::starEach es X.env:=by rfl)(G:(backTo pos (starEach es X.env)).any (·.1)=false:=by rfl):JE X (.Call (.Name x p) (e::es) [] pos) (fA f fa):=AJ F (M.mono hj) ha O g he G
def Og (h1:∀y∈scope.names,y.2≠.cell:=by decide +kernel)(h2:scope.kind=.function:=by rfl)(h3:∀y∈scope.names,y.2=.local->scope.names.lookup y.1=some .local:=by decide +kernel)(g:(scope.names.all λy=>!(y.2 == NameKind.free) || (X.env.cells.lookup y.1).isSome)=true:=by rfl):CompSc X scope (dG scope.names X.env.cells []):=Lb h1 h2 h3 g
def S1 (h1:N'[j]? = some x)(h2:X.N[i]? = some x)(t:mT X N' scope (dG scope.names X.env.cells []) (j+1) r)(h3:X.env.kindOf x=some .cell∨X.env.kindOf x=some .free:=by exact Or.inl rfl)(h4:(relabel scope X.env).names.lookup x=some .cell∨(relabel scope X.env).names.lookup x=some .free:=by exact Or.inl rfl)(hf:(x,NameKind.free)∈scope.names:=by decide +kernel)(hc:(X.env.cells.lookup x).isSome=true:=by rfl):mT X N' scope (dG scope.names X.env.cells []) j (i::r):=.cons h1 h2 h3 h4 (oW hf hc) t
end DL
namespace DL
open PySem PySem.Spec PySem.W PyProof.Rows L2
noncomputable def nF:At->D
 |.i n=>.int n
 |.s z=>.str z
section
variable {prog:Program}{w:World}{A:Around}{E:QV}{s:Shared}
def Oh (hx:zq x u)(hy:zq y v):SeqAt.EqAt A s u v (cI (nF x) (nF y)):=by
 cases x with
 |i a=>
  obtain⟨t,rfl⟩:=hx;cases y with
  |i c=>obtain⟨t',rfl⟩:=hy;simp only[nF,cI];exact SeqAt.EqAt.int_int _ _ _ _
  |s c=>obtain⟨t',rfl⟩:=hy;simp only[nF,cI];exact SeqAt.EqAt.int_str _ _ _ _
 |s a=>
  obtain⟨t,rfl⟩:=hx;cases y with
  |i c=>obtain⟨t',rfl⟩:=hy;simp only[nF,cI];exact SeqAt.EqAt.str_int _ _ _ _
  |s c=>obtain⟨t',rfl⟩:=hy;simp only[nF,cI];exact SeqAt.EqAt.str_str _ _ _ _
theorem Bu:∀ {xs ys:List At}{vs:LU},Paired zq xs vs->Paired zq ys vs->xs=ys
 |_,_,_,.nil,.nil=>rfl
 |x::xs,y::ys,_,.cons p ps,.cons q g=>by
  rw[Bu ps g];congr 1;cases x with
  |i a=>
   obtain⟨t,rfl⟩:=p;cases y with
   |i c=>obtain⟨t',e⟩:=q;cases e;rfl
   |s c=>obtain⟨t',e⟩:=q;cases e
  |s a=>
   obtain⟨t,rfl⟩:=p;cases y with
   |i c=>obtain⟨t',e⟩:=q;cases e
   |s c=>obtain⟨t',e⟩:=q;cases e;rfl
def LA (x y:At):cI (nF x) (nF y)=true↔x=y:=by
 cases x<;>cases y<;>simp[nF]
theorem pq:∀xs ys:List At,eC (xs.map nF) (ys.map nF)=true↔xs=ys
 |[],[]=>by simp[eC]
 |[],_::_=>by simp[eC]
 |_::_,[]=>by simp[eC]
 |x::xs,y::ys=>by
  rw[uY,uY,eC,vC,LA,pq xs ys];simp
def LB (hx:fz s.heap xs x)(hy:fz s.heap ys y)(hu:A.units<cLine):SeqAt.EqAt A s x y (eC (xs.map nF) (ys.map nF)):=by
 obtain⟨a,o,its,n,rfl,ho,hc,hd,r⟩:=hx;obtain⟨b,o',g,m,rfl,G,T,M,U⟩:=hy;by_cases O:a=b
 ·subst O;rw[ho]at G;cases G;rw[hd]at M;cases M;rw[Bu r U,(pq ys ys).mpr rfl];exact SeqAt.EqAt.same _
 ·have t1:s.heap.IsTuple a its:=⟨o,ho,hc,n,hd⟩;have t2:s.heap.IsTuple b g:=⟨o',G,T,m,M⟩;have l1:xs.length=its.size:=by rw[←vG];exact fg r
  have l2:ys.length=g.size:=by rw[←vG];exact fg U
  have he:∀j (h1:j<its.size) (h2:j<g.size),SeqAt.EqAt A.in1 s its[j] g[j] (cI ((xs.map nF).getD j .non) ((ys.map nF).getD j .non)):=λj h1 h2=>by
   have p:=fh (.i 0) Value.none r (i:=j) (by omega);have q:=fh (.i 0) Value.none U (i:=j) (by omega);have e1:its.toList.getD j Value.none=its[j]:=by rw[vF,getElem?_toList,getElem?_eq_getElem h1];rfl
   have e2:g.toList.getD j Value.none=g[j]:=by rw[vF,getElem?_toList,getElem?_eq_getElem h2];rfl
   rw[e1]at p;rw[e2]at q;have e3:(xs.map nF).getD j .non=nF (xs.getD j (.i 0)):=by simp[vF,show j<xs.length by omega]
   have e4:(ys.map nF).getD j .non=nF (ys.getD j (.i 0)):=by simp[vF,show j<ys.length by omega]
   rw[e3,e4];exact Oh p q
  have rc:=SeqAt.RcAt.tuples t1 t2 hu he;have OJ:((List.range (min its.size g.size)).all (λj=>cI ((xs.map nF).getD j .non) ((ys.map nF).getD j .non)) && its.size == g.size)=eC (xs.map nF) (ys.map nF):=by
   rw[←l1,←l2];by_cases hl:xs.length=ys.length
   ·rw[←hl,Nat.min_self,beq_self_eq_true,Bool.and_true];have:=j5 (λj=>cI ((xs.map nF).getD j .non) ((ys.map nF).getD j .non)) (xs:=xs.map nF) (ys:=ys.map nF) (by simpa using hl) λj x y e1 e2=>vj j x y e1 e2;rwa [vI]at this
   ·rw[vi (by simpa using hl),beq_eq_false_iff_ne.mpr hl,Bool.and_false]
  rw[OJ]at rc;exact SeqAt.EqAt.of_refs O rc
def Dg (xs:List At):bo xs xs=some false:=by
 induction xs with
 |nil=>rfl
 |cons x xs g=>cases x<;>rw[bo,if_pos rfl,g]
def Fb (hx:fz s.heap xs x)(hy:fz s.heap ys y)(h:bo (.i n::xs) (.i m::ys)=some b)(hu:A.units<cLine)(q:Q b s)(hn:zq (.i n) u)(hm:zq (.i m) v):KatLex prog w A true false Q [(u,v),(x,y)] 0 s:=by
 obtain⟨t,rfl⟩:=hn;obtain⟨t',rfl⟩:=hm;refine kat_cons (wpAny_eqBool_int ?_);rw[bo]at h;by_cases e:n=m
 ·rw[if_pos e]at h;rw[show(n == m)=true by simp[e]];refine kat_yes (kat_cons (LB hx hy hu _ _ _ _ ?_));by_cases e2:xs=ys
  ·rw[(pq xs ys).mpr e2];rw[e2,Dg]at h;cases h
   exact kat_yes (kat_nil q)
  ·rw[eq_false_iff.mpr λz=>e2 ((pq xs ys).mp z)];refine kat_no (kat_one _ _ ?_);show wpAny _ _ (richCompare .Lt x y) _ _ _;exact EL (Q:=W.BoolBack Q) hx hy h hu (by first|exact q|exact⟨b,rfl,q⟩)
 ·rw[if_neg e]at h;cases h
  rw[show(n == m)=false by simp[e]];exact kat_no (oneLt_int q)
end
def Dh (h:Heap)(xs:List At)(v:Value):Prop:=∃n k a o its m u x,xs=.i n::k/\v=.ref a/\h.get? a=some o/\o.cls=.type "tuple"/\o.data=.seq its m/\its.toList=[u,x]/\zq (.i n) u/\fz h k x
section
variable {prog:Program}{w:World}{A:Around}{E:QV}{s:Shared}
def Ic (hx:Dh s.heap xs x)(hy:Dh s.heap ys y)(h:bo xs ys=some b)(hu:A.units<cLine)(q:Q b s):wpAny (model prog w) A (keyLt' (tuples' true) x y) Q E s:=by
 obtain⟨n,k,a,o,its,m,u,x',rfl,rfl,T,_,hd,ei,an,U⟩:=hx;obtain⟨n',k',a',o',its',m',u',y',rfl,rfl,G,_,M,g,O,ty⟩:=hy;refine kat_lt T hd G M ?_;rw[ei,g];have hf:decide (its.size<its'.size)=false:=by
  rw[←vG,←vG,ei,g];rfl
 rw[hf];exact Fb U ty h hu q an O
theorem ou:∀ {ks:List (List At)}{vs:LU},Paired (Dh h) ks vs->∃fs,KatTups h vs fs/\fs.length=ks.length/\∀v∈fs,∃n,zq (.i n) v
 |_,_,.nil=>⟨[],trivial,rfl,by simp⟩
 |k::ks,_,.cons x t=>by
  obtain⟨fs,h1,h2,h3⟩:=ou t;obtain⟨n,k,a,o,its,m,u,G,rfl,rfl,g,hc,hd,ei,an,_⟩:=x;refine⟨u::fs,KatTups.cons g hc hd (by rw[←getElem?_toList,ei];rfl) h1,by simp[h2],λv hv=>?_⟩;rcases vP hv with rfl|hv
  ·exact⟨n,an⟩
  ·exact h3 v hv
def Di (hp:Paired (Dh s.heap) ks vs)(hn:0<ks.length)(q:Q (tuples' true) s):wpAny (model prog w) A (keyKind' vs.toArray) Q E s:=by
 obtain⟨fs,h1,h2,h3⟩:=ou hp;refine kat_kind (T:=.type "int") h1 (by omega) (λv hv=>?_) (by decide) q;obtain⟨n,t,rfl⟩:=h3 v hv;exact .now
def Fc (hc:dc ks=true)(hu:A.units<cLine)(hp:Paired (Dh s.heap) ks vs):∀(i j:Nat)(C:Bool->Shared->Prop)(s1:Shared),i<ks.length->j<ks.length->s1=s->(∀s',s'=s->C (qc (zt ks) i j) s')->kas_ask prog w A (tuples' true) vs i j C s1:=by
 intro i j C s1 hi hj e G;subst e;unfold kas_ask;have g:ks.getD i []∈ks:=by rw[vF,vU hi];exact getElem_mem hi
 have M:ks.getD j []∈ks:=by rw[vF,vU hj];exact getElem_mem hj
 refine Ic (fh [] Value.none hp hi) (fh [] Value.none hp hj) (gX hc g M) hu ?_;have:=G s1 rfl;unfold qc zt at this;rw[xY (uS ⟨_,g,rfl⟩)]at this;exact this
end
def LC:D->Option (List At)
 |.tup [.int n,.tup es]=>(fK es).map (.i n :: ·)
 |_=>none
def jn:LD->Option (List (List At))
 |[]=>some []
 |d::ds=>(LC d).bind λa=>(jn ds).map (a :: ·)
theorem tT:∀ {ds:LD}{ks:List (List At)},jn ds=some ks->ks.length=ds.length
 |[],_,h=>by simp only[jn]at h;cases h;rfl
 |d::ds,_,h=>by
  simp only[jn]at h;obtain⟨a,h1,h⟩:=oX h;obtain⟨r,h2,h⟩:=oY h;subst h;simp[tT h2]
theorem yn (I:Inv X ae σ H s):∀ {ys:LV}{ds:LD}{ks:List (List At)}{its:LU},bc ys its->IsL X.K H ys ds->jn ds=some ks->Paired (Dh s.heap) ks its
 |_,_,_,_,.nil,.nil,h=>by simp only[jn]at h;cases h;exact .nil
 |_,_,_,_,.cons r O,.cons i T,h=>by
  simp only[jn]at h;obtain⟨a,h1,h⟩:=oX h;obtain⟨t,h2,h⟩:=oY h;subst h;refine .cons ?_ (yn I O T h2);unfold LC at h1;split at h1
  ·rename_i n es;obtain⟨k,G,rfl⟩:=oY h1;cases i with
   |tup hq hl=>
    cases r
    obtain⟨its',g,⟨o,U,hc,m,hd⟩,_⟩:=I.tuple hq;cases hl with
    |cons i1 hl=>
     cases hl with
     |cons i2 hl=>
      cases hl
      cases g with
      |cons r1 g=>
       cases g with
       |cons r2 g=>
        cases g
        cases i1
        have hk:de [D.tup es]=some [k]:=by show(fK es).bind _=_;rw[G];rfl
        have M:=ms I (.cons r2 .nil) (.cons i2 .nil) hk;cases M with
        |cons M _=>exact⟨n,k,_,o,_,m,_,_,rfl,rfl,U,hc,hd,rfl,r1,M⟩
  ·cases h1
def Ie (hu:A.units<cLine):KK X A jn λ_=>true:=⟨tT,λI _ _ _ _ r i e _ hc=>have hp:=yn I r i e;⟨λhn _ _ q=>Di hp hn q,Fc hc hu hp⟩⟩
def Fd (hu:X.A.units+40<cLine):KK X X.A.in1.in1 jn λ_=>true:=Ie (show X.A.units+1+1<cLine by omega)
@[simp] abbrev Ai:FE->(Env->D->Option D)->FE:=wh jn λ_=>true
end DL
namespace DL
open PySem PySem.Spec PyProof.Rows L2
def Oi:Nat->(LU->Prop)->Prop
 |0,P=>P []
 |n+1,P=>∀a,Oi n λl=>P (a::l)
theorem LF:∀n P,Oi n P->∀us:LU,us.length=n->P us
 |0,_,h,[],_=>h
 |n+1,_,h,a::us,e=>LF n _ (h a) us (Nat.succ.inj e)
section
variable {P:Program}{w:World}{K:Frag}{mg:SV}{base:Heap}
def KC (K:Frag)(mg:SV)(x:Str)(c:D):Prop:=∃u v,mg x=some u/\aU v u/\∀B,Is K B v c
def KD (w:World)(K:Frag)(mg:SV)(x:Str)(c:List (Str×D)):Prop:=∃d,mg x=some (.ref d)/\t0 K w.params d c
def kc_of {x:Str}{c:D}{h:Heap}(X:K.In h)(G:h.Ns mainGlobals mg)(k:∃u v,nsIn K mainGlobals x=some (some u)/\aU v u/\∀B,Is K B v c):KC K mg x c:=let ⟨u,v,e,r⟩:=k;⟨u,v,mg_of X G e,r⟩
def kd_of {x:Str}{c:List (Str×D)}{h:Heap}(X:K.In h)(G:h.Ns mainGlobals mg)(k:∃d,nsIn K mainGlobals x=some (some (.ref d))/\t0 K w.params d c):KD w K mg x c:=let ⟨d,e,r⟩:=k;⟨d,mg_of X G e,r⟩
def du.fqL {x:Str}{st:Stmt}{k:Nat}{O:LD->OB}(F:du K x st)(B:∃h,K.In h/\h.Ns mainGlobals mg)(g:FS)(N:LS)(n:Nat)
  (hb:∀ {f:Addr}{eN:Value}{A:Around}{outer:List PySem.Env}{s:Shared}{H:Hp}{E:XK},N.Nodup->eW k (A.deeper (envOfC x (aQ st) s.heap.objs.size f eN))->(A.deeper (envOfC x (aQ st) s.heap.objs.size f eN)).units+40<cLine->(∀c P,PySem.W.tabIn K x=some (c,P)->eN=.ref c)->wQ (oK zl P w K mg base N x (aQ st) f eN A outer s H E).nox (cD st) g)
  (S:FnScope N (N.take n) (aQ st):=by refine⟨rfl,rfl,rfl,?_,rfl,?_,?_⟩<;>decide +kernel)
  (M:∀(kV doc pm:Value)(an:Option Addr)(eN ct:Value)(us:LU),us.length=(N.take n).length->bindArgs (fnOf x x (gg st) (cD st) (aQ st) .none kV doc pm an eN ct) ⟨us,[]⟩=pure ((N.take n).zip us):=by
   exact λ_ _ _ _ _ _=>LF _ _ (by(repeat intro);rfl))
  (e:aL g (N.take n).length (N.length - (N.take n).length)=O:=by rfl):
  Fn P w K mg base (k+1) x O:=let ⟨_,X,G⟩:=B;e ▸ F.fnL X G S M λ_ _ _ _ _ _ _ hc T=>hb S.nd T (CB T) hc
def du.fq {x:Str}{st:Stmt}{k:Nat}{M:LD->OB}(F:du K x st)(B:∃h,K.In h/\h.Ns mainGlobals mg)(g:FS)(N:LS)(n:Nat)
  (hb:∀ {f:Addr}{eN:Value}{A:Around}{outer:List PySem.Env}{s:Shared}{H:Hp}{E:XK},N.Nodup->eW k (A.deeper (envOfC x (aQ st) s.heap.objs.size f eN))->(A.deeper (envOfC x (aQ st) s.heap.objs.size f eN)).units+40<cLine->wQ (oK zl P w K mg base N x (aQ st) f eN A outer s H E).nox (cD st) g)
  (S:FnScope N (N.take n) (aQ st):=by refine⟨rfl,rfl,rfl,?_,rfl,?_,?_⟩<;>decide +kernel)
  (G:∀(kV doc pm:Value)(an:Option Addr)(eN ct:Value)(us:LU),us.length=(N.take n).length->bindArgs (fnOf x x (gg st) (cD st) (aQ st) .none kV doc pm an eN ct) ⟨us,[]⟩=pure ((N.take n).zip us):=by
   exact λ_ _ _ _ _ _=>LF _ _ (by(repeat intro);rfl))
  (e:aL g (N.take n).length (N.length - (N.take n).length)=M:=by rfl):
  Fn P w K mg base (k+1) x M:=F.fqL B g N n (λn r u _=>hb n r u) S G e
end
section
variable {X:Cx}{x:Str}{pos:Pos}
def yo (i:Nat)(g:X.N.Nodup)(hi:X.N[i]? = some x:=by rfl)(hx:DC X.env.scope x:=by first|exact Or.inl rfl|exact Or.inr rfl)(hf:X.fn x=true∨X.env.scope.names.lookup x=some .local:=by first|exact .inl rfl|exact .inr rfl):PG X (.Name x pos) (jd i):=A7 g hi hx hf
def MD {fp}(i:Nat)(g:N'.Nodup:=by decide +kernel)(hi:(iM X N' scope cl C s H fp).N[i]? = some x:=by rfl)(hx:DC (iM X N' scope cl C s H fp).env.scope x:=by exact Or.inl rfl)(hf:(iM X N' scope cl C s H fp).fn x=true∨(iM X N' scope cl C s H fp).env.scope.names.lookup x=some .local:=by first|exact .inl rfl|exact .inr rfl):PG (iM X N' scope cl C s H fp) (.Name x pos) (jd i):=A7 g hi hx hf
def fR (N':LS)(hi:JI X tg gf fi)(hc:∀ {C s H fp},JC (iM X N' scope (dG scope.names X.env.cells []) C s H fp) A4 fc)(he:∀ {C s H fp},JE (iM X N' scope (dG scope.names X.env.cells []) C s H fp) wP fe)
  (M:Js X.K nT p7 g:=by first|exact xq (by decide)|exact Jv (by decide)) (O:∀ {C s H fp},PG (iM X N' scope (dG scope.names X.env.cells []) C s H fp) tg g:=by intros;first|exact MD 0|exact zv rfl (gn (MD 0) (gn (MD 1) oV)))
  (T:mT X N' scope (dG scope.names X.env.cells []) nT cap:=by repeat first|exact .nil rfl|refine S1 rfl rfl ?_)
  (S:CompSc X scope (dG scope.names X.env.cells []):=by exact Og) (G:X.calm=true:=by rfl)
  (hs:∀x,foldedSetIterable gf X.env x=pure x:=by intro _;rfl):
  JE X (.ListComp wP [⟨tg,gf,A4,0⟩] scope pos) (bD fi nT cap p7 fc fe):=Hg G S T hi (λ_ _ _ _=>O) M (λ_ _ _ _=>hc) (λ_ _ _ _=>he) hs
def my (N':LS)(U:X.N.Nodup)(hi:JI X tg gf fi)(hc:∀ {C s H fp},JC (iM X N' scope (dG scope.names X.env.cells []) C s H fp) A4 fc)(he:∀ {C s H fp},JE (iM X N' scope (dG scope.names X.env.cells []) C s H fp) wP fe)
  (M:Js X.K nT p7 g:=by first|exact xq (by decide)|exact Jv (by decide)) (hg:∀ {C s H fp},PG (iM X N' scope (dG scope.names X.env.cells []) C s H fp) tg g:=by intros;first|exact MD 0|exact zv rfl (gn (MD 0) (gn (MD 1) oV)))
  (cp:mT X N' scope (dG scope.names X.env.cells []) nT cap:=by repeat first|exact .nil rfl|refine S1 rfl rfl ?_)
  (O:X.N[i]? = some y:=by rfl) (hy:X.env.kindOf y=some .local:=by rfl)
  (T:swapsWith (.ListComp wP [⟨tg,gf,A4,0⟩] scope pos) (some (.Name y py)) spos.line X.env=pure true:=by rfl)
  (S:CompSc X scope (dG scope.names X.env.cells []):=by exact Og) (G:X.calm=true:=by rfl)
  (hs:∀x,foldedSetIterable gf X.env x=pure x:=by intro _;rfl):
  JS X (.Assign [.Name y py] (.ListComp wP [⟨tg,gf,A4,0⟩] scope pos) spos) (aO i (bD fi nT cap p7 fc fe)):=Hh G U O hy T S cp hi (λ_ _ _ _=>hg) M (λ_ _ _ _=>hc) (λ_ _ _ _=>he) hs
def oy (hi:JI X tg gf fi)(G:PG X tg t)(M:Hd X.K p7 t)(hb:wQ X body g)(hp:PassesOwn (model X.prog X.w) X.A X.env X.xe:=by exact PassesOwn.never)(hc:X.calm=true:=by rfl)
  (hs:∀x,foldedSetIterable gf X.env x=pure x:=by intro _;rfl):JS X (.For tg gf body [] pos) (l8 fi p7 g):=Lg hp hc hi G M hb hs
def tU (hi:PI X tg gf (P0 X.K fi))(G:PG X tg t)(M:Hd X.K p7 t)(hb:wQ X body g)(hp:PassesOwn (model X.prog X.w) X.A X.env X.xe:=by exact PassesOwn.never)(hc:X.calm=true:=by rfl)
  (hs:∀x,foldedSetIterable gf X.env x=pure x:=by intro _;rfl):JS X (.For tg gf body [] pos) (jT fi p7 g):=Ho hp hc hi G M hb hs
end
end DL
namespace DL
open PySem PySem.Spec PySem.W PyProof.Rows L2
def q8:entryFor table "dict_itemiterator.__iter__" = some Builtin.«dict_keyiterator.__iter__»:=entryFor_alias (id':="dict_keyiterator.__iter__") (by kernel_rfl) rfl (by decide +kernel) (by kernel_rfl)
def wm (he:IsItemIter s.heap it d i n ep ok ov)(h:Q (.ref it) s):wpAny (model prog w) A (pyIter (.ref it)) Q E s:=by
 have g:s.TypeIs (.ref it) "dict_itemiterator":=⟨_,he,rfl⟩;refine wpAny_pyIter_slot g PySem.F.slot_dict_itemiterator_iter (wpAny_call_entry PySem.F.slot_dict_itemiterator_iter g q8 ?_ (PySem.F.args_dict_itemiterator_iter_1 _));show wpAny _ _ (ret (.ref it)) _ _ s;exact wY ⟨_,rfl,"dict_itemiterator",_,g,PySem.F.slot_dict_itemiterator_next.lookup,h⟩
noncomputable def QA (a:Addr)(aG:List (dD×V))(ob:Obj):It:=⟨λi H=>H a=some (.dK aG ob)/\i<aG.length,λi H y H'=>∃T k v,y=.ref T/\H T=none/\H'=upd H T (.tup [kV k,v])/\aG[i]? = some (k,v),λi H=>H a=some (.dK aG ob)/\aG.length<=i⟩
def Aj {P:Program}{w:World}{K:Frag}{es:QD}{kt:Nat}{pt:Pos}(a it:Addr)(aG:List (dD×V))(ob:Obj){ds:Array DictEntry}{ep:Nat}(hd:ob.data=.dict ds ep):Turn P w K (.Tuple es kt pt) (QA a aG ob) [it] it (λi h=>∃ok g,IsItemIter h it a i aG.length ep ok g) where
 mem:=by simp
 obj:=λi h st b hb=>by
  have e:b=it:=by simpa using hb
  subst e;obtain⟨ok,g,e⟩:=st;exact⟨_,e,λv z=>by cases z⟩
 keep:=λi h h' st k=>let ⟨ok,g,e⟩:=st;⟨ok,g,k it (by simp) _ e⟩
 item:=by
  intro X U hw hK hc i ae s σ H E I hf st hg;subst U hw hK;obtain⟨ok,g,he⟩:=st;obtain⟨hH,G⟩:=hg;obtain⟨vs,r,m⟩:=lq I.hok hH hd;have hl:vs.length=aG.length:=(Paired.length r).symm;obtain⟨u,hu,ru⟩:=r.get (k:=aG[i].1) (x:=aG[i].2) (vU G);have fresh:H s.heap.objs.size=none:=I.hok.fresh (vT _);have M:it≠s.heap.objs.size:=vS (vX he);refine wpAny_pyNext_items_item (by rw[hl];exact he) m hu λkey h' O ho hT hsz hk=>?_;rw[hl]at ho;refine⟨_,rfl,wpAny_letOwnedTupleGo_items (s:={ s with heap:=h' }) ho λh2 MJ s2=>?_⟩;have T:Heap.SameBut it h' h2:=s2;have kk:∀b o,b∉[it]->s.heap.get? b=some o->h2.get? b=some o:=λb o hb q=>T.extBut _ _ (λz=>hb (by simp[z])) (hk b o (λz=>hb (by simp[z])) q);have new:bO X.prog X.w (upd H s.heap.objs.size (.tup [kV aG[i].1,aG[i].2])) h2 s.heap.objs.size (.tup [kV aG[i].1,aG[i].2]):=⟨by show 2<=sizeLine;decide,[key,u],.cons (J6 O) (.cons ru .nil),⟨_,T.extBut _ _ M.symm hT,rfl,_,rfl⟩⟩;refine⟨.ref s.heap.objs.size,upd H s.heap.objs.size (.tup [kV aG[i].1,aG[i].2]),Jw (s:=s) (t':=s.toks) I hf kk (vT _) new,rfl,⟨_,aG[i].1,aG[i].2,rfl,fresh,rfl,vU G⟩,⟨_,_,MJ⟩,λb hb=>?_⟩;have Gw:b≠s.heap.objs.size:=by
   have e:b=it:=by simpa using hb
   rw[e];exact M
  rw[aJ Gw];exact(hf b hb).1
 done:=by
  intro X U hw hK hc i ae s σ H E I hf st hg;subst U hw hK;obtain⟨ok,g,he⟩:=st;obtain⟨hH,Ms⟩:=hg;obtain⟨vs,r,m⟩:=lq I.hok hH hd;have hl:vs.length=aG.length:=(Paired.length r).symm;exact wpAny_pyNext_items_end (I.ok.hd hc) (by rw[hl];exact he) m (getElem?_eq_none (by omega)) λh' hk=>⟨rfl,oZ (t':=s.toks) I hf λb o hb q=>hk b o (λz=>hb (by simp[z])) q⟩
 self:=λ_ _ _ _ _ st h=>let ⟨_,_,he⟩:=st;wm he h
section
variable {X:Cx}{es:QD}{kt:Nat}{pt:Pos}{e:Expr}
def QB (G:TE):TI:=λσ H R=>G σ H λx g=>∃a aG ob,x=.ref a/\g a=some (.dK aG ob)/\R (QA a aG ob) g
def Fe {o:Expr}{td:TE}{cG bR:Pos}(ho:PE X o td)(g:attributeBase o "items" X.env (eval o X.env)=eval o X.env:=by rfl)(G:(cG.endLine == bR.line)=true:=by rfl):PI X (.Tuple es kt pt) (.Call (.Attribute o "items" cG) [] [] bR) (QB td):=by
 intro ae s σ H R I h;refine wpAny_Call_method0_late g G (c8 (ho ae s σ H _ I h) λv s1 ⟨x,H1,M,r1,a,aG,ob,ex,O,q⟩=>?_);subst ex;obtain⟨h1,h2⟩:=zD M r1 (T:="dict") (.inr (.inr (.inl ⟨rfl,.inl ⟨aG,ob,O⟩⟩)));cases r1
 obtain⟨es,ep,hd⟩:=pj M.hok O;obtain⟨vs,r,m⟩:=lq M.hok O hd;have hl:vs.length=aG.length:=(Paired.length r).symm;refine⟨"dict","dict.items",plainAttrs_dict,PySem.F.slot_dict_items,PySem.F.type_dict_items,h1,h2,Calls.callWith_builtin rfl (PySem.evalArgs_none ?_)⟩;refine call_meetsIn PySem.F.slot_dict_items h1 PySem.F.entry_dict_items (PySem.F.args_dict_items_1 _) (meets_dict_items (cq X.prog X.w) a (oe M.hok O).2.1) ⟨⟨vs,m.dictOf⟩,?_⟩;have U:Inv X ae σ H1 { s1 with heap:=s1.heap.push { cls:=.type "dict_items",data:=.fields #[.ref a] } }:=M.kept (t':=s1.toks) λb o e=>vZ _ e;refine wpAny_pyIter_items (v:=s1.heap.objs.size) ⟨_,vY _ rfl,rfl,rfl⟩ (m.keep λb o e=>vZ _ e) ?_;rw[hl];refine⟨(s1.heap.push { cls:=.type "dict_items",data:=.fields #[.ref a] }).objs.size,[(s1.heap.push { cls:=.type "dict_items",data:=.fields #[.ref a] }).objs.size],_,_,H1,rfl,U.kept (t':=s1.toks) λb o e=>vZ _ e,Aj a _ aG ob hd,⟨_,_,vY _ rfl⟩,λb hb=>?_,q⟩;have e:b=(s1.heap.push { cls:=.type "dict_items",data:=.fields #[.ref a] }).objs.size:=by simpa using hb
 subst e;exact U.fpOk (vT _) (U.hok.fresh (vT _))
noncomputable def iT (ks:LK)(ds:LD):LD:=(ks.zip ds).map λx=>.tup [kD x.1,x.2]
def Ff {K:Frag}{B:Hp}{a:Addr}{ks:LK}{vs:LV}{ds:LD}{ob:Obj}(h:B a=some (.dK (ks.zip vs) ob))(hl:ks.length=vs.length)(hs:IsL K B vs ds):nq K (QA a (ks.zip vs) ob) B (iT ks ds):=by
 intro i H s;have hz:(ks.zip vs).length=vs.length:=by rw[length_zip];omega
 have hn:=hs.length;refine⟨λd ed=>?_,λg=>⟨s _ _ h,by unfold iT at g;rw[vI,length_zip]at g;omega⟩⟩;unfold iT at ed;rw[vA]at ed;obtain⟨⟨k0,d0⟩,ek,rfl⟩:=oY ed;obtain⟨e1,e2⟩:=getElem?_zip_eq_some.mp ek;obtain⟨v,M,iv⟩:=hs.get e2;have G:i<vs.length:=(vV M).1;refine⟨⟨s _ _ h,by rw[hz];exact G⟩,λy H3 hy=>?_⟩;obtain⟨T,k,v',rfl,hT,rfl,e⟩:=hy;obtain⟨g1,O⟩:=getElem?_zip_eq_some.mp e;rw[e1]at g1;cases g1;rw[M]at O;cases O;have U:=Ext.laid (o:=.tup [kV k0,v']) s hT;exact⟨_,U,.tup (jc.of aC) (.cons (J7 _) (.cons (iv.mono U.bn) .nil))⟩
@[simp] def mz (f:FE):FA:=λρ=>(f ρ).bind λx=>match x.1 with|.dk ks ds=>some (iT ks ds)|_=>none
def yp (h:JE X e f)(g:attributeBase e "items" X.env (eval e X.env)=eval e X.env:=by rfl)(G:(cG.endLine == bR.line)=true:=by rfl):JI X (.Tuple es kt pt) (.Call (.Attribute e "items" cG) [] [] bR) (mz f):=by
 intro ae s σ H R I q;obtain⟨B,ρ,ds,O,r,T,q⟩:=q;obtain⟨⟨xd,xb⟩,ex,es⟩:=oX T;cases xd<;>try (cases es;done)
 cases es
 refine Fe h g G ae s σ H R I ⟨B,ρ,_,_,O,r,ex,λv U N1 M i1 _=>?_⟩;cases i1 with
 |@dk a ks vs ds ob hd hl hs=>exact⟨a,_,ob,rfl,M.nh _ _ hd,q _ U N1 M (Ff hd hl hs)⟩
end
section
variable {K:Frag}{E:Ends}{σ:St}{H:Hp}
def iU (i:Nat)(G M:FE):FS:=λρ=>match ρ[i]? with
 |some (some (.dk ks vs,true))=>(M (eO ρ)).bind λv=>(G ρ).bind λk=>(km k.1).bind λg=>if ks.length<sizeLine then some (.nx (ρ.set i (some (.dk (cV ks g) (cW ks vs g v.1),true))))else none
 |_=>none
def Dj (q:lS K (iU i fk fv) E σ H):AD (mV i) (tD K fk) (tD K fv) E σ H:=by
 obtain⟨B0,H0,ρ,r,⟨N,s⟩,e,p⟩:=q;unfold iU at e;split at e
 ·rename_i ks ds ei;obtain⟨v,G,e⟩:=oX e;obtain⟨k,ek,e⟩:=oX e;obtain⟨M,hk,e⟩:=oX e;split at e
  ·rename_i hx;cases e
   refine⟨dn N (own σ ρ),eO ρ,v.1,v.2,bI.trans s.ext.nh,s.repH,G,λv1 H1 N1 O T _=>?_⟩;obtain⟨s1,c⟩:=s.growH O;obtain⟨a,o,h1,h2,h3,h4⟩:=s1.ow i _ ei;refine⟨.ref a,h1,_,ρ,k.1,k.2,s1.ext.nh,s1.rep,ek,λv2 H2 N2 g U _=>?_⟩;have s2:=s1.grow g;have hv:=ot U hk;subst hv;obtain⟨a',o',k1,k2,k3,k4⟩:=s2.ow i _ ei;rw[h1]at k1;cases k1
   cases k4 with
   |@dk ks vs ds hl h5 ob=>
    refine⟨a,rfl,.inl ⟨_,M,_,s2.ext.nh _ _ k2,rfl,?_,λWl=>?_⟩⟩
    ·rw[length_zip];omega
    ·rw[pi hl];exact p σ _ ⟨_,s2.writeB ei h1 (.dk (mw hl _ _) (h5.put ((T.mono c).mono (dF λa o e q=>⟨g.bn a o e,q⟩))))⟩
  ·cases e
 ·cases e
end
section
variable {X:Cx}{pos:Pos}{e k:Expr}
def qA (hu:X.A.units+1<cLine)(hv:JE X e fv)(hk:JE X k fk)(M:X.N[i]? = some y:=by rfl)(g:Ki X.env.scope y:=by first|exact Or.inl rfl|exact Or.inr (Or.inl rfl)|exact Or.inr (Or.inr rfl))(hd:(y == ("__debug__" : Str))=false:=by decide)
  (G:(y == ("__classdict__" : Str))=false:=by decide) (hs:swapsWith e (some (.Subscript (.Name y py) k pt)) pos.line X.env=pure false:=by rfl):JS X (.Assign [.Subscript (.Name y py) k pt] e pos) (iU i fk fv) :=
 PS.to (uL hu (pA M g hd G) hk hv hs) λ_ _ _ q=>Dj q
end
section
variable {prog:Program}{w:World}{A:Around}{E:QV}{s:Shared}
theorem Bv:∀(vs:LU)(ns:LI),vs.length=ns.length->(∀(i:Nat)(v:Value),vs[i]? = some v->∃(m:Int)(t:Tok),ns[i]? = some m/\v=Value.int m t)->IntsAre vs ns
 |[],[],_,_=>.nil
 |v::vs,n::ns,h,k=>by
  obtain⟨m,t,e,rfl⟩:=k 0 v rfl;cases (show some n=some m from e)
  exact .cons n t (Bv vs ns (by simpa using h) λi v hv=>k (i+1) v hv)
def yq (hh:A.handled=none)(lo:(a == sysModules)=false)(hm:s.heap.DictAt (cq prog w) a aG ep)(hk:aG.map (·.1)=ns.map .inl)(Kb:ns.length<64)
  (hQ:∀(h1 h':Heap)(tk:Nat)(b:Addr)(out:AV)(n:Nat)(G:LI),(∀c u,s.heap.get? c=some u->h1.get? c=some u)->(∀c u,h1.get? c=some u->h'.get? c=some u)->h1.objs.size<=b->h'.get? b=some (seqObj "list" out n) ->
   IntsAre out.toList G->G.Perm ns->G.Pairwise (·<=·)->Q (.ref b) { s with heap:=h',toks:=tk }):
  wpAny (model prog w) A (call (.builtin "sorted") [.ref a]) Q E s:=by
 refine Calls.call_function_entry kind_sorted plain_sorted entry_sorted (args_sorted1 _) ?_;unfold Builtin.«sorted»;refine wX (m:=checkCount "sorted" 1 1 _) (wY ?_);have Ru:aG.length=ns.length:=by have:=congrArg List.length hk;simpa using this
 refine wX (kdu_collect (A:=A.in1) (kdl_dict lo) (by exact hh) hm (by rw[sizeLine_eq];omega) λh1 tk g O M=>?_);have T:g.toList.length=ns.length:=by rw[vG,M.1,Ru]
 have Ka:IntsAre g.toList ns:=Bv g.toList ns T λi v hv=>by
  obtain⟨k,x,e1,e2⟩:=M.2 i v (by simpa using hv);have e3:(aG.map (·.1))[i]? = some k:=by rw[vA,e1];rfl
  rw[hk,vA]at e3;obtain⟨m,e4,rfl⟩:=oY e3;obtain⟨t,rfl⟩:=Value.isInt_shape (k:=m) (v:=v) e2;exact⟨m,t,e4,rfl⟩
 refine wX (wpAny_newList ?_ (by rw[T,sizeLine_eq];omega));have U:(h1.push (seqObj "list" g.toList.toArray 0)).get? h1.objs.size=some (seqObj "list" g.toList.toArray 0):=vY _ rfl;show wpAny _ _ _ _ _ { s with heap:=h1.push (seqObj "list" g.toList.toArray 0),toks:=tk };refine wX (wpAny_holding (wpAny_call_entry slot_list_sort ⟨_,U,rfl⟩ entry_list_sort (list_sort_tree U Ka (by rw[T];exact Kb) λout G a1 a2 a3=>⟨_,rfl,?_⟩) (args_list_sort _)));obtain⟨n,he⟩:=sortedHeap_at (out:=out) U;refine wY ⟨_,rfl,hQ h1 _ _ _ out n G O (λb u q=>?_) (vT _) he a1 a2 a3⟩;have hl:=vX q;rw[sortedHeap_old (vS hl) (by rw[size_push'];exact lt_succ_of_lt hl)];exact vZ _ q
end
noncomputable def tV:LK->Option LI
 |[]=>some []
 |.inl n::ks=>(tV ks).map (n :: ·)
 |.inr _::_=>none
theorem yr:∀ {ks:LK}{ns:LI},tV ks=some ns->ks=ns.map .inl
 |[],_,h=>by cases h;rfl
 |.inl n::ks,_,h=>by
  obtain⟨r,h1,rfl⟩:=oY h;rw[yr h1];rfl
 |.inr _::_,_,h=>by cases h
def Ig {aG:List (dD×V)}{vs:List (dD×Value)}(r:KV aG vs):vs.map (·.1)=aG.map (·.1):=by
 unfold KV at r;induction r with
 |nil=>rfl
 |cons h t g=>rw[uY,uY,g,h.1]
@[simp] def jo:LD->OB
 |[.dk ks _]=>(tV ks).bind λns=>if ns.length<64 then some (.lst ((df ns).map .int),true)else none
 |_=>none
section
variable {X:Cx}
def Dk (hc:X.calm=true):bP X (.builtin "sorted") (AE X.K jo):=by
 intro ae s σ H xs us Q I r h;obtain⟨B,dl,d,bb,sB,i,g,q⟩:=h;cases i with
 |nil=>simp[jo]at g
 |cons i1 i2=>
  cases i2 with
  |cons _ _=>cases i1<;>simp[jo]at g
  |nil=>
   cases i1 with
   |@dk a ks vs ds ob hd hl hs=>
    obtain⟨u,rfl,rx⟩:=gK r;cases rx
    simp only[jo]at g;obtain⟨ns,en,g⟩:=oX g;split at g
    ·rename_i M;cases g
     have O:=sB _ _ hd;obtain⟨es,ep,T⟩:=pj I.hok O;obtain⟨U,r',m⟩:=lq I.hok O T;have Ws:U.map (·.1)=ns.map .inl:=by rw[Ig r',List.map_fst_zip (by omega),yr en]
     refine yq (I.ok.hd hc) (oe I.hok O).2.1 m Ws M λh1 h' tk b out n ns' k1 k2 hb he Ka G Pd=>?_;have e:=qj G Pd;subst e;have I1:Inv X ae σ H { s with heap:=h1,toks:=tk }:=tI I k1 rfl rfl;have hf:H b=none:=I1.hok.fresh hb;have xt:=Ext.laid (o:=.lst ((df ns).map V.int)) sB hf;exact⟨.ref b,_,I1.laid (t':=tk) k2 hb (show bO X.prog X.w _ h' _ (.lst ((df ns).map V.int))from ⟨by rw[vI];unfold df;rw[(aR _ ns).length_eq,sizeLine_eq];omega,out.toList,n,fT Ka,he⟩),rfl,q _ _ _ xt (.lst (gP.of aC) (kh _)) λ_=>⟨_,_,_,rfl,rfl,hf,aC,kh _⟩⟩
    ·cases g
   |_=>simp[jo]at g
def LG (hu:X.A.units+1<cLine)(hi:JE X i fi)(O:JE X o fo)(hm:behindInMarks .In o=false:=by first|exact jb _ (by decide) (by decide)|rfl):JE X (.Compare i [.In] [o] pos) (f2 P4 fi fo):=by
 refine PE.to (Kn (KP hu hi O) hm) λσ H Q q=>?_;obtain⟨B,ρ,d,bb,T,r,g,q⟩:=q;obtain⟨y,U,g⟩:=oX g;obtain⟨x,ex,g⟩:=oX g;refine⟨B,ρ,y.1,y.2,T,r,U,λv2 H1 N1 G i2 _=>⟨N1,ρ,x.1,x.2,G.nh,r.mono G.bn,ex,λv H2 N2 M i1 ff=>?_⟩⟩;obtain⟨xd,xb⟩:=x;cases i1 with
 |@dk a ks vs ds ob h hl hs=>
  simp only[P4]at g;obtain⟨k,hk,g⟩:=oY g;cases g
  have hv:=ot i2 hk;subst hv;refine⟨a,jO (ks.zip vs) k,rfl,.inl ⟨_,k,_,.inl (M.nh _ _ h),rfl,rfl⟩,?_⟩;rw[tQ hl hs];exact(q.into (G.trans M)).one M.nh (.bl _)
 |_=>simp[P4]at g
end
end DL
namespace DL
open PySem PySem.Spec PyProof.Rows L2
@[simp] abbrev fV (i:Nat)(g:FA):FA:=ag (ah i) g
@[simp] abbrev fI (n:Int):FE:=fC (.int n)
@[simp] abbrev fS (s:PySem.Str):FE:=fC (.str s)
section
variable {X:Cx}{es:QD}{g:FA}{pos:Pos}
def aD {x:Str}{p:Pos}(i:Nat)(G:JA X es g)(M:PE X (.Name x p) (mV i):=by exact pv)
  (hs:starEach (.Name x p::es) X.env=(false,eval (.Name x p) X.env)::starEach es X.env:=by rfl):JA X (.Name x p::es) (fV i g):=ai (af i M) G hs
def bU {i:Int}{j:Nat}(G:JA X es g):JA X (.Constant (.int i) j pos::es) (ag (fC (.int i)) g):=ai au G
def a7 (F:Fn X.prog X.w X.K X.mg X.base k x f)(O:eW j X.A)(ha:JA X (e::es) g:=by repeat first|exact am|refine aD _ ?_|refine ai a8 ?_)(hj:k<=j:=by decide)(T:Gl X x:=by rfl)(G:(x == ("__debug__" : Str))=false:=by decide)(he:starEach (e::es) X.env=(false,eval e X.env)::starEach es X.env:=by rfl)(M:(backTo pos (starEach es X.env)).any (·.1)=false:=by rfl):JE X (.Call (.Name x p) (e::es) [] pos) (fA f g):=AJ F (O.mono hj) ha T G he M
def bj (he:JE X e f):wQ X [.Return (some e) pos] (aX f):=bi (Ei he)
def cw {c:Expr}{G:FT}(hc:JT X c G)(he:JE X e f):JS X (.If c [.Return (some e) p] [] pos) (eI G (aX f) bq):=ft hc (bi (Ei he)) eK
def bJ (i:Nat)(G:PE X (.Name x p) (mV i):=by exact pv):JE X (.Subscript (.Name x p) (.Constant (.int n) j q) pos) (dZ i n):=aS (af i G) au
end
end DL
namespace DL
open PySem PySem.Spec PySem.W PyProof.Rows L2
def tW:Value->Int
 |.int n _=>n
 |_=>0
def S2 {prog:Program}{w:World}:zE (PySem.intKind prog w) tW .int:=⟨intKind_is prog w,λh=>Value.isInt_shape h,λ_ _=>rfl,λ_ _=>rfl⟩
theorem yt:∀(vs:LU),(∀v∈vs,∃x t,v=.int x t)->IntsAre vs (vs.map tW)
 |[],_=>.nil
 |v::vs,h=>by
  obtain⟨x,t,rfl⟩:=h v mX;exact .cons x t (yt vs λu hu=>h u (mZ _ hu))
def U5 {prog:Program}{w:World}:xO prog w tW .int λg=>bc ((df g).map V.int):=λh1 h2 h3 G h=>
 list_sort_tree G (yt _ h1) h3 λout M O T U=>h out (by have e:=qj (T.trans h2) U;subst e;exact fT O)
theorem IntsAre.at:∀ {vs:LU}{g:LI},IntsAre vs g->∀(i:Nat)(v:Value),vs[i]? = some v->∃x t,v=.int x t/\g[i]? = some x
 |_,_,.nil,i,v,h=>by simp at h
 |_,_,.cons x t G,0,v,h=>by simp at h;exact⟨x,t,h.symm,rfl⟩
 |_,_,.cons x t G,i+1,v,h=>by
  simp only[getElem?_cons_succ]at h;exact IntsAre.at G i v h
@[simp] def qB:D->OB:=xS kg df .int
def yu {X:Cx}{e:Expr}{G g p p2:Pos}(hc:X.calm=true)(M:X.mg "sorted" = none)(O:X.mg "set" = none)(he:JE X e f)(g1:Gl X "sorted":=by rfl)(T:Gl X "set":=by rfl)
  (h1:starEach [e] X.env=(false,eval e X.env)::starEach [] X.env:=by rfl):JE X (.Call (.Name "sorted" p) [.Call (.Name "set" p2) [e] [] g] [] G) (f1 qB f) :=
 xT S2 U5 (λU=>(aR _ U).length_eq) kh (λr' hl ez=>have h:=pe r' hl ez;⟨IntsAre.length h,IntsAre.at h⟩) hc M O he g1 T h1
end DL
namespace DL
open PySem PySem.Spec PyProof.Rows L2
section
variable {X:Cx}{e:Expr}{pos:Pos}
@[simp] noncomputable def Xn (fa:FE):FE:=λρ=>(fa ρ).bind λx=>match x.1 with
 |.lst ds=>some (.lst ds.reverse,true)
 |_=>none
end
@[simp] def yv (i:Nat)(fa:FA):FS:=λρ=>(fa (eO ρ)).bind λds=>if ds.length<=sizeLine then some (.nx (ρ.set i (some (.lst ds,true))))else none
@[simp] def m4 (i:Nat)(f:FE):FS:=λρ=>match ρ[i]? with
 |some (some (.lst ds,true))=>(f (eO ρ)).bind λx=>if ds.length<sizeLine then some (.nx (ρ.set i (some (.lst (ds++[x.1]),true))))else none
 |_=>none
def dC.newList {K:Frag}(s:dC K B0 H0 N H σ ρ)(i:Nat)(hp:H p=none)(hb:Bx K (dn N (own σ ρ)) ob dd):dC K B0 H0 (upd N p ob) (upd H p ob) (σ.set i (some (.ref p))) (ρ.set i (some (dd,true))):=by
 have x:=Ext.laid (o:=ob) s.ext.nh hp;have s1:=s.grow x;have g:N p=none:=s.ext.nh.free hp;have G:¬own σ ρ p:=λz=>by obtain⟨O,⟨q,_⟩,_⟩:=s.owned z;rw[g]at q;cases q
 have c:aW (dn N (own σ ρ)) (dn (upd N p ob) (λb=>own σ ρ b∨b=p)):=dF λb u e q=>⟨x.bn _ _ e,λz=>z.elim q λz=>by subst z;rw[g]at e;cases e⟩;refine s1.bindOwn aC (s.ext.hh.free hp) (λj e q z=>G ⟨j,e,q,z⟩) (λj e _ q=>?_) (λj e _ q=>?_) (hb.mono c)
 ·obtain⟨w,h1,h2⟩:=s.sh j e q;exact⟨w,h1,h2.mono c⟩
 ·obtain⟨M,o',h1,h2,_,h4⟩:=s.ow j e q;exact⟨M,o',h1,x.bn _ _ h2,h4.mono c⟩
def Fg {K:Frag}(q:lS K (yv i fa) E σ H):uA (Nu (KW K fa)) (jd i) E σ H:=by
 obtain⟨B0,H0,ρ,r,⟨N,s⟩,e,p⟩:=q;obtain⟨ds,G,e⟩:=oX e;split at e
 ·rename_i hz;cases e
  refine⟨dn N (own σ ρ),eO ρ,ds,bI.trans s.ext.nh,s.repH,G,λvs T N1 M g=>⟨by rw[g.length];exact hz,λt O=>?_⟩⟩;obtain⟨s1,c⟩:=s.growH M;exact p _ _ ⟨_,s1.newList i O (.lst (g.mono c))⟩
 ·cases e
def Fh {K:Frag}(q:lS K (m4 i f) E σ H):∃(a:Addr)(us:LV),σ[i]? = some (some (V.ref a))/\H a=some (.lst us)/\xc (tD K f) GD σ H λxs H2=>uJ (.ref a) xs H2 λ_ M=>E.nx σ M:=by
 obtain⟨B0,H0,ρ,r,⟨N,s⟩,e,p⟩:=q;unfold m4 at e;split at e
 ·rename_i ds ei;obtain⟨x,ex,e⟩:=oX e;split at e
  ·rename_i hx;cases e
   obtain⟨a,vs,g,z,h1,h2,h3,h4⟩:=s.owL i _ ei;cases z
   refine⟨a,vs,h1,s.ext.nh _ _ h2,dn N (own σ ρ),eO ρ,x.1,x.2,bI.trans s.ext.nh,s.repH,ex,λv H1 N1 G O _=>⟨a,vs,v,rfl,rfl,G.hh _ _ (s.ext.nh _ _ h2),by rw[h4.length];exact hx,?_⟩⟩;obtain⟨s1,c⟩:=s.growH G;obtain⟨a',T,g,z,k1,k2,_,U⟩:=s1.owL i _ ei;cases z
   rw[h1]at k1;cases k1;rw[eG _ _ h2]at k2;cases k2;exact p σ _ ⟨_,s1.write ei h1 (U.append (.cons (O.mono c) .nil))⟩
  ·cases e
 ·cases e
section
variable {X:Cx}{e:Expr}{pos:Pos}
def Ih {es:QD}{fa:FA}(g:X.N.Nodup)(he:JA X es fa)(hi:X.N[i]? = some x:=by rfl)(hx:DC X.env.scope x:=by first|exact Or.inl rfl|exact Or.inr rfl)(hs:swapsWith (.List es p2) (some (.Name x p)) pos.line X.env=pure false:=by rfl)
  (hf:X.fn x=true∨X.env.scope.names.lookup x=some .local:=by first|exact .inl rfl|exact .inr rfl):JS X (.Assign [.Name x p] (.List es p2) pos) (yv i fa):=PS.to (pB g hi hx (DM he) hs hf) λ_ _ _ q=>Fg q
def px (he:JE X e f)(T:PE X (.Name x p) (mV i):=by exact pv)
  (g:attributeBase (.Name x p) "append" X.env (eval (.Name x p) X.env)=eval (.Name x p) X.env:=by rfl)
  (M:((backTo bR (starEach [e] X.env)).all (λx=>!x.1) && (backToKw bR (keywordEach [] X.env)).all (λx=>x.1.isSome)
   && decide ([e].length+([]:List Keyword).length+(if([]:List Keyword).isEmpty then 0 else 1)<30))=true:=by rfl)
  (G:(cG.endLine == bR.line)=true:=by rfl) (hs:starEach [e] X.env=[(false,eval e X.env)]:=by rfl) (O:swapsWith (.Call (.Attribute (.Name x p) "append" cG) [e] [] bR) none pos.line X.env=pure false:=by rfl):
  JS X (.Expr (.Call (.Attribute (.Name x p) "append" cG) [e] [] bR) pos) (m4 i f):=by
 refine PS.to (u6 (xg plainAttrs_list PySem.F.slot_list_append PySem.F.type_list_append nn T (ee he gE hs) g M G hs rfl) O) λE σ H q=>?_;obtain⟨a,us,h1,h2,k⟩:=Fh q;exact⟨_,h1,.inl ⟨rfl,us,gP.of h2⟩,k⟩
end
@[simp] noncomputable def Ak (f g:FE):FE:=λρ=>match f ρ with|some r=>some r|none=>g ρ
section
variable {X:Cx}{e:Expr}{pos pos2 p p2:Pos}
def LH (h1:JE X e f)(h2:JE X e g):JE X e (Ak f g):=by
 intro ae s σ H Q I q;obtain⟨B,ρ,d,b,M,r,G,q⟩:=q;unfold Ak at G;split at G
 ·rename_i hf;cases G
  exact h1 ae s σ H Q I ⟨B,ρ,d,b,M,r,hf,q⟩
 ·exact h2 ae s σ H Q I ⟨B,ρ,d,b,M,r,G,q⟩
def Bw:V->LV->Hp->VK->Prop:=λx vs H Q=>∃(l:Addr)(xs:LV)(k:Int)(y:V),x=.ref l/\vs=[.int k,y]/\H l=some (.lst xs)/\0<=k/\k<=xs.length/\xs.length<1000/\Q .non (upd H l (.lst (xs.take k.toNat++y::xs.drop k.toNat)))
def LJ {k:Int}(h:0<=k)(h2:k<1000):¬(!Builtin.List.listFitsIndex k)=true:=by
 unfold Builtin.List.listFitsIndex;rw[decide_eq_true (by omega),decide_eq_true (by omega)];decide
def Dl:Sr X "list.insert" Bw:=by
 intro ae s σ H x vs v us Q I M O h;obtain⟨l,xs,k,y,rfl,rfl,G,h0,hk,hz,q⟩:=h;cases M
 obtain⟨U,g,rfl,⟨t,rfl⟩,T⟩:=A8 O;obtain⟨z,its,n,r,hl,e⟩:=I.lstM G;refine call_meets PySem.F.slot_list_insert ⟨_,e,rfl⟩ PySem.F.entry_list_insert (PySem.F.args_list_insert_3 _ _ _) (PySem.AutoSeq1.list_insert_list_int_val_1 l its.toArray n k t g (LJ h0 (by omega)) (by rw[vH,←hl];exact z)) ⟨e,?_⟩;refine⟨.non,_,I.lset (its':=its.take k.toNat++g::its.drop k.toNat) G e ?_ ((r.take k.toNat).append (.cons T (r.drop k.toNat))) ?_,rfl,q⟩
 ·show(its.toArray.extract 0 (if k<0 then (k+(its.toArray.size:Int)).toNat else min k.toNat its.toArray.size)).push g++its.toArray.extract (if k<0 then (k+(its.toArray.size:Int)).toNat else min k.toNat its.toArray.size)=_;have hi:(if k<0 then (k+(its.toArray.size:Int)).toNat else min k.toNat its.toArray.size)=k.toNat:=by rw[if_neg (by omega),vH,←hl,Nat.min_eq_left (by omega)]
  rw[hi];exact PySem.W.kl_ins_eq its k.toNat g
 ·refine vR ?_ (by decide:(1000:Nat)<=sizeLine);rw[uZ,vE,length_take,length_drop];omega
@[simp] def Ii (i:Nat)(g G:FE):FS:=λρ=>match ρ[i]? with
 |some (some (.lst ds,true))=>(g ρ).bind λk=>(G ρ).bind λv=>match k.1 with
  |.int z=>if 0<=z/\z<=ds.length/\ds.length<1000/\bg v.1=true then some (.nx (ρ.set i (some (.lst (ds.take z.toNat++v.1::ds.drop z.toNat),true))))else none
  |_=>none
 |_=>none
def Ij {K:Frag}(q:lS K (Ii i fk fv) E σ H):∃(a:Addr)(us:LV),σ[i]? = some (some (V.ref a))/\H a=some (.lst us)/\xc (tD K fk) (xc (tD K fv) GD) σ H λxs H2=>Bw (.ref a) xs H2 λ_ U=>E.nx σ U:=by
 obtain⟨B0,H0,ρ,r,⟨N,s⟩,e,p⟩:=q;unfold Ii at e;split at e
 ·rename_i ds ei;obtain⟨⟨kd,kb⟩,ek,e⟩:=oX e;obtain⟨x,ex,e⟩:=oX e;cases kd with
  |int z=>
   dsimp only at e;split at e
   ·rename_i hc;cases e
    obtain⟨a,vs,G,M,h1,h2,h3,h4⟩:=s.owL i _ ei;cases M
    refine⟨a,vs,h1,s.ext.nh _ _ h2,N,ρ,_,_,s.ext.nh,s.rep,ek,λv1 H1 N1 O i1 _=>⟨N1,ρ,x.1,x.2,O.nh,s.rep.mono O.bn,ex,λv2 H2 N2 x2 i2 _=>?_⟩⟩;cases i1
    have g:=O.trans x2;have s1:=s.grow g;refine⟨a,vs,z,v2,rfl,rfl,g.hh _ _ (s.ext.nh _ _ h2),hc.1,by rw[h4.length];exact hc.2.1,by rw[h4.length];exact hc.2.2.1,?_⟩;obtain⟨a',Xz,G,M,k1,k2,_,T⟩:=s1.owL i _ ei;cases M
    rw[h1]at k1;cases k1;rw[g.bn _ _ h2]at k2;cases k2;exact p σ _ ⟨_,s1.write ei h1 ((T.take _).append (.cons (s1.flat i2 hc.2.2.2) (T.drop _)))⟩
   ·cases e
  |_=>cases e
 ·cases e
def LL {e2:Expr}{i:Nat}{x:Str}{cG bR:Pos}{fk fv:FE}(he:JE X e fk)(O:JE X e2 fv)(hN:PE X (.Name x p) (mV i):=by exact pv)
  (g:attributeBase (.Name x p) "insert" X.env (eval (.Name x p) X.env)=eval (.Name x p) X.env:=by rfl)
  (M:((backTo bR (starEach [e,e2] X.env)).all (λx=>!x.1) && (backToKw bR (keywordEach [] X.env)).all (λx=>x.1.isSome)
   && decide ([e,e2].length+([]:List Keyword).length+(if([]:List Keyword).isEmpty then 0 else 1)<30))=true:=by rfl)
  (G:(cG.endLine == bR.line)=true:=by rfl) (hs:starEach [e,e2] X.env=(false,eval e X.env)::starEach [e2] X.env:=by rfl) (T:starEach [e2] X.env=[(false,eval e2 X.env)]:=by rfl) (U:(backTo bR (starEach [e2] X.env)).any (·.1)=false:=by rfl) (Rc:swapsWith (.Call (.Attribute (.Name x p) "insert" cG) [e,e2] [] bR) none pos.line X.env=pure false:=by rfl):
  JS X (.Expr (.Call (.Attribute (.Name x p) "insert" cG) [e,e2] [] bR) pos) (Ii i fk fv):=by
 refine PS.to (u6 (xg plainAttrs_list PySem.F.slot_list_insert PySem.F.type_list_insert Dl hN (ee he (ee O gE T) hs) g M G hs U) Rc) λE σ H q=>?_;obtain⟨a,us,h1,h2,k⟩:=Ij q;exact⟨_,h1,.inl ⟨rfl,us,gP.of h2⟩,k⟩
end
end DL
namespace DL
open PySem PySem.Spec PySem.W PyProof.Rows L2
@[simp] def m5:D->OB
 |.lst ds=>(kg ds).bind λg=>if g.length<4000 then some (.int ((fy g).length:Nat),false)else none
 |_=>none
section
variable {X:Cx}{e:Expr}{pos pos2 p p2:Pos}
def sC:bP X (.builtin "len") (λxs H Q=>∃S g,xs=[.ref S]/\H S=some (xR (PySem.intKind X.prog X.w) tW S g)/\Q (.int (g.length:Nat)) H):=by
 intro ae s σ H xs us Q I r h;obtain⟨S,g,rfl,M,q⟩:=h;obtain⟨u,rfl,O⟩:=gK r;cases O
 have T:iR (PySem.intKind X.prog X.w) tW s.heap S g:=(I.hok S _ M).1;obtain⟨o,es,ep,t,U,G,hd,JX,hp,nd,hb,hf,_⟩:=T;have sz:es.size=g.length:=by rw[←hp.length_eq,vI,vG]
 have TJ:g.length<4096:=hb;exact PySem.call_len_set U G hd hf (by rw[sz];omega) ⟨.int (g.length:Nat),H,I.tok _,⟨_,by rw[sz]⟩,q⟩
def Al (hc:X.calm=true)(m1:X.mg "len" = none)(m2:X.mg "set" = none)(he:JE X e f)(g1:Gl X "len":=by rfl)(g2:Gl X "set":=by rfl)
  (h1:starEach [e] X.env=(false,eval e X.env)::starEach [] X.env:=by rfl):JE X (.Call (.Name "len" p) [.Call (.Name "set" p2) [e] [] pos2] [] pos) (f1 m5 f):=by
 refine PE.to (pD sC g1 m1 gt (ee (nj (om S2 hc) g2 m2 Jz (ee he gE h1) (he:=h1)) gE)) λσ H Q q=>?_;obtain⟨B,ρ,d',bb,sB,r,g,q⟩:=q;obtain⟨M,ex,g⟩:=oX g;refine⟨B,ρ,M.1,M.2,sB,r,ex,λv H1 N1 G i1 fr=>?_⟩;obtain⟨xd,xb⟩:=M;cases i1<;>try (simp[m5]at g;done)
 rename_i l0 vs ds h hl;simp only[m5]at g;obtain⟨T,ez,g⟩:=oX g;split at g
 ·rename_i O;cases g
  refine⟨_,_,T,rfl,G.nh.seq h,λits r'=>have h:=pe r' hl ez;⟨IntsAre.length h,IntsAre.at h⟩,O,λS hS=>⟨S,_,rfl,aC,?_⟩⟩;have U:=Ext.laid (o:=xR (PySem.intKind X.prog X.w) tW S (fy T)) G.nh hS;exact(q.into (G.trans U)).one (G.trans U).nh (.int _)
 ·cases g
end
end DL
namespace DL
open PySem L2
def ig (I:Nat->Env->Prop)(ds:LD)(M:Env)(h0:I 0 M)
  (step:∀i d ρ,ds[i]? = some d->I i ρ->∃G ρ',tg d ρ=some G/\(g G=some (.nx ρ')∨g G=some (.ct ρ'))/\I (i+1) ρ'):
  ∃ρ',gp tg g ds M=some (.nx ρ')/\I ds.length ρ':=by
 have key:∀(es:LD)(i:Nat)(ρ:Env),ds.drop i=es->i+es.length=ds.length->I i ρ->∃ρ',gp tg g es ρ=some (.nx ρ')/\I ds.length ρ':=by
  intro es;induction es with
  |nil=>intro i ρ e hl h;refine⟨ρ,by rw[xo],?_⟩;rw[←hl];exact h
  |cons d es T=>
   intro i ρ e hl h;have hd:ds[i]? = some d:=by
    have:(ds.drop i)[0]? = some d:=by rw[e];rfl
    rwa [getElem?_drop,Nat.add_zero]at this
   obtain⟨G,ρ',h1,h2,h3⟩:=step i d ρ hd h;have he:ds.drop (i+1)=es:=by rw[←List.drop_drop,e];rfl
   obtain⟨O,k1,k2⟩:=T (i+1) ρ' he (by simp at hl;omega) h3;refine⟨O,?_,k2⟩;rw[kJ,h1];rcases h2 with h2|h2<;>simp only[vJ,h2]<;>exact k1
 exact key ds 0 M (by simp) (by simp) h0
def jp (n:Nat)(I:Nat->Env->Prop)(G:Env)(h0:I 0 G)
  (step:∀(i:Nat) ρ,i<n->I i ρ->∃M ρ',tg (.int (i:Int)) ρ=some M/\(g M=some (.nx ρ')∨g M=some (.ct ρ'))/\I (i+1) ρ'):
  ∃ρ',gp tg g (gG 0 n) G=some (.nx ρ')/\I n ρ':=by
 have hl:(gG 0 n).length=n:=by simp[gG]
 obtain⟨ρ',h1,h2⟩:=ig (tg:=tg) (g:=g) I (gG 0 n) G h0 λi d ρ hd h=>by
  unfold gG at hd;rw[vA]at hd;obtain⟨k,hk,hd⟩:=oY hd;obtain⟨O,hk⟩:=vV hk;rw[length_range]at O;rw[List.getElem_range]at hk;subst hk;rw[Int.zero_add]at hd;subst hd;exact step i ρ O h
 rw[hl]at h2;exact⟨ρ',h1,h2⟩
def kn {α:Type}{xs:List α}{j:Nat}(h:j<xs.length):nZ xs (j:Int)=some xs[j]:=GL (by simp[h])
def wn {α:Type}{xs:List α}{i:Int}(h0:0<=i)(h:i.toNat<xs.length):nZ xs i=some xs[i.toNat]:=by
 have:=kn h;rwa [Int.toNat_of_nonneg h0]at this
@[simp] def J8 (xs:LI):b8 (xs.map D.int)=true:=by
 induction xs with
 |nil=>simp
 |cons x xs g=>simp[g]
@[simp] def Gq (n:Nat)(xs:LI):(xs.map D.int).all (aN n)=true:=by
 induction xs with
 |nil=>simp
 |cons x xs g=>simpa using g
@[simp] def Ik (xs:LI):(xs.map D.int).all gs=true:=by
 induction xs with
 |nil=>simp
 |cons x xs g=>simpa using g
def Dm (n:Nat):gG 0 n=((List.range n).map λ(k:Nat)=>(k:Int)).map D.int:=by
 unfold gG;rw[uP];apply List.map_congr_left;intro k _;simp
mutual
def m6:D->D->Bool
 |.non,.non=>true
 |.bl a,.bl b=>a == b
 |.int a,.int b=>decide (a=b)
 |.str a,.str b=>decide (a=b)
 |.ty a,.ty b=>decide (a=b)
 |.tup xs,.tup ys=>qC xs ys
 |.lst xs,.lst ys=>qC xs ys
 |_,_=>false
def qC:LD->LD->Bool
 |[],[]=>true
 |x::xs,y::ys=>m6 x y && qC xs ys
 |_,_=>false
end
mutual
theorem By:∀ {x y:D},m6 x y=true->x=y
 |.non,.non,_=>rfl
 |.bl a,.bl b,h=>by simp[m6]at h;rw[h]
 |.int a,.int b,h=>by simp[m6]at h;rw[h]
 |.str a,.str b,h=>by simp[m6]at h;rw[h]
 |.ty a,.ty b,h=>by simp[m6]at h;rw[h]
 |.tup xs,.tup ys,h=>by rw[m6]at h;rw[qD h]
 |.lst xs,.lst ys,h=>by rw[m6]at h;rw[qD h]
theorem qD:∀ {xs ys:LD},qC xs ys=true->xs=ys
 |[],[],_=>rfl
 |x::xs,y::ys,h=>by
  rw[qC,vC]at h;rw[By h.1,qD h.2]
end
def QC (r:OB)(d:D)(b:Bool):Bool:=match r with
 |some (e,c)=>m6 e d && c == b
 |none=>false
def LM (h:QC r d b=true):r=some (d,b):=by
 unfold QC at h;split at h
 ·rw[vC]at h;rw[By h.1,eq_of_beq h.2]
 ·cases h
section
variable {f:FE}{c:FT}{g g' h:FS}{ρ ρ':Env}{i:Nat}{d:D}{b:Bool}{r:Option Res}{ds:LD}
def av (hl:ds.length=n)(e:g (ds.map (λd=>some (d,false))++List.replicate k none)=some (.rt d b)):aL g n k ds=some (d,b):=by
 unfold aL;rw[if_pos hl,e]
def tX (n:bg d=true):setE ρ i d b=ρ.set i (some (d,false)):=by unfold setE;rw[if_pos n]
def yw (n:b8 ds=true):setE ρ i (.lst ds) true=ρ.set i (some (.lst ds,true)):=by
 unfold setE;rw[if_neg (by simp),if_pos ⟨rfl,by simpa using n⟩]
def Il (n:bg d=false)(m:b=false∨tj d=false):setE ρ i d b=(unown ρ).set i (some (d,false)):=by
 unfold setE;have hz:¬(b=true/\tj d=true):=λz=>by
  rcases m with m|m
  ·rw[m]at z;exact absurd z.1 (by decide)
  ·rw[m]at z;exact absurd z.2 (by decide)
 rw[if_neg (by simp[n]),if_neg hz]
def Bz (e:f ρ=some (d,b))(k:h (setE ρ i d b)=r):az (aO i f) h ρ=r:=by simp[e];exact k
def LO (e:f ρ=some (d,b))(n:bg d=true)(k:h (ρ.set i (some (d,false)))=r):az (aO i f) h ρ=r:=Bz e (by rw[tX n];exact k)
def cz (e:f ρ=some (.lst ds,true))(n:b8 ds=true)(k:h (ρ.set i (some (.lst ds,true)))=r):az (aO i f) h ρ=r:=Bz e (by rw[yw n];exact k)
def Oj (e:f ρ=some (d,b))(n:bg d=false)(m:b=false∨tj d=false)(k:h ((unown ρ).set i (some (d,false)))=r):az (aO i f) h ρ=r:=Bz e (by rw[Il n m];exact k)
def LP (u:unown ρ=ρ):setE ρ i d false=ρ.set i (some (d,false)):=by
 unfold setE;split
 ·rfl
 ·rw[if_neg (by simp),u]
def LQ (e:f ρ=some (d,false))(u:unown ρ=ρ)(k:h (ρ.set i (some (d,false)))=r):az (aO i f) h ρ=r:=Bz e (by rw[LP u];exact k)
def bZ (e:g ρ=some (.nx ρ'))(k:h ρ'=r):az g h ρ=r:=by unfold az;rw[e];exact k
def QE (e:g ρ=some (.rt d b)):az g h ρ=some (.rt d b):=by unfold az;rw[e]
def QF (e:g ρ=some (.ct ρ')):az g h ρ=some (.ct ρ'):=by unfold az;rw[e]
def ko (e:c ρ=some true)(k:g ρ=r):eI c g g' ρ=r:=by unfold eI;rw[e];exact k
def lf (e:c ρ=some false)(k:g' ρ=r):eI c g g' ρ=r:=by unfold eI;rw[e];exact k
def Im (e:c ρ=some x)(G:x=true->g ρ=r)(kf:x=false->g' ρ=r):eI c g g' ρ=r:=by
 cases x with
 |true=>exact ko e (G rfl)
 |false=>exact lf e (kf rfl)
def bE (e:c ρ=some true)(k:g ρ=some (.rt d b)):az (eI c g g') h ρ=some (.rt d b):=QE (ko e k)
def a9 (e:c ρ=some false)(k:h ρ=r):az (eI c g bq) h ρ=r:=bZ (lf e rfl) k
def ax (e:f ρ=some (d,b)):aX f ρ=some (.rt d b):=by simp[e]
def m7 (e:ρ[i]? = some (some (d,b)))(hb:Jr d=false:=by rfl):iE i ρ=some (.rt d b):=by simp only[iE,e,hb];simp
def qE (e:f ρ=some (d,b))(n:bg d=true):aO i f ρ=some (.nx (ρ.set i (some (d,false)))):=by
 show(f ρ).map _=_;rw[e,map_some,tX n]
def wo (e:f ρ=some (.lst ds,true))(n:b8 ds=true):aO i f ρ=some (.nx (ρ.set i (some (.lst ds,true)))):=by
 show(f ρ).map _=_;rw[e,map_some,yw n]
def jD (e:ρ[i]? = some (some (.lst ds,true)))(G:f ρ=some (d,b))(n:bg d=true)(l:ds.length<sizeLine):jS i f ρ=some (.nx (ρ.set i (some (.lst (ds++[d]),true)))):=by
 simp[e,G,n,l]
def J9 (e:ρ[i]? = some (some (.lst ds,true)))(G:f ρ=some (d,b))(n:bg d=true)(l:ds.length<sizeLine)(k:h (ρ.set i (some (.lst (ds++[d]),true)))=r):az (jS i f) h ρ=r:=bZ (jD e G n l) k
def jq (e:fi ρ=some ds)(k:gp tg g ds ρ=some (.nx ρ')):jT fi tg g ρ=some (.nx ρ'):=by unfold jT;rw[e];exact k
def gS (e:fi (eO ρ)=some ds)(k:gp tg g ds ρ=some (.nx ρ')):l8 fi tg g ρ=some (.nx ρ'):=by unfold l8;rw[e];exact k
def eE {f:FE}{j:Nat}(e:f ρ=some (.int j,b))(hj:j<=1000):cU f ρ=some (gG 0 j):=by
 unfold cU;rw[e];simp only[];rw[if_pos (by omega)];simp
def Am (e:f ρ=some (.bl x,b)):bp f ρ=some x:=by unfold bp;rw[e]
def B1 (e:fa ρ=some ds)(k:F ds=x):fA F fa ρ=x:=by unfold fA;rw[e,vJ];exact k
def yx {f1 g1:D->D->OB}{fa G M:FE}{x y z:D}{b1 b2 b3 b4 p q:Bool}(O:fa ρ=some (x,b1))(T:G ρ=some (y,b2))(U:M ρ=some (z,b3))(e1:f1 x y=some (.bl p,b4))(e2:p=true->g1 y z=some (.bl q,false)):nu f1 g1 fa G M ρ=some (.bl (p && q),false):=by
 unfold nu;rw[O,T,U];simp only[vJ,e1];cases p
 ·rfl
 ·exact e2 rfl
def dJ {f1 f2:FE}{p q b1:Bool}(G:f1 ρ=some (.bl p,b1))(e2:p=true->f2 ρ=some (.bl q,false)):lb f1 f2 ρ=some (.bl (p && q),false):=by
 unfold lb;rw[G];cases p
 ·rfl
 ·exact e2 rfl
def kq {f1 f2:FE}{p q b1:Bool}(G:f1 ρ=some (.bl p,b1))(e2:p=false->f2 ρ=some (.bl q,false)):Hl f1 f2 ρ=some (.bl (p || q),false):=by
 unfold Hl;rw[G];cases p
 ·exact e2 rfl
 ·rfl
def aE (G:f ρ=some (d,b))(e2:fr ρ=some xs):ag f fr ρ=some (d::xs):=by
 unfold ag;rw[G,vJ,e2,vJ]
def gH (G:fa ρ=some (x,b1))(e2:fb ρ=some (y,b2))(M:op x y=z):f2 op fa fb ρ=z:=by
 unfold f2;rw[G,vJ,e2,vJ];exact M
def dz (G:c1 ρ=some p)(e2:p=true->c2 ρ=some q):dq c1 c2 ρ=some (p && q):=by
 unfold dq;rw[G];cases p
 ·rfl
 ·exact e2 rfl
def cL (G:c1 ρ=some p)(e2:p=false->c2 ρ=some q):jf c1 c2 ρ=some (p || q):=by
 unfold jf;rw[G];cases p
 ·exact e2 rfl
 ·rfl
def cx (G:c1 ρ=some p):fD c1 ρ=some (!p):=by
 unfold fD;rw[G];rfl
end
def P5 (a c:Nat):decide ([a]<[c])=decide (a<c):=by
 congr 1;rw[cons_lt_cons_iff];simp
@[simp] def P6 (a c:Nat):wR (.str ⟨#[a]⟩) (.str ⟨#[c]⟩)=some (.bl (decide (a<=c)),false):=by
 unfold wR;show some (D.bl (!decide ([c]<[a])),false)=_;rw[P5];congr 3;by_cases h:c<a
 ·rw[decide_eq_true h,decide_eq_false (by omega)];rfl
 ·rw[decide_eq_false h,decide_eq_true (by omega)];rfl
def bH (h:n<=100000):n<sizeLine:=lt_of_le_of_lt h (by decide)
def cX (h:n<=100000):n<=sizeLine:=le_of_lt (bH h)
def gz {α:Type}(l:List α)(g:α->D)(p:α->Bool)(h:α->D)(e:fi ρ=some (l.map g))(hl:l.length<=100000)
  (k:∀x∈l,∃G,tg (g x) (dB nT cap ρ)=some G/\c G=some (p x)/\(p x=true->∃b,fe G=some (h x,b))):bD fi nT cap tg c fe ρ=some (.lst ((l.filter p).map h),true):=by
 have key:∀M:List α,(∀x∈M,x∈l)->gL tg c fe (dB nT cap ρ) (M.map g)=some ((M.filter p).map h):=by
  intro M;induction M with
  |nil=>intro _;simp
  |cons x M O=>
   intro hm;obtain⟨G,h1,h2,h3⟩:=k x (hm x mX);have O:=O λy hy=>hm y (mZ _ hy);rw[uY,zI,h1,vJ,h2,vJ];cases hp:p x with
   |false=>simp[hp,O]
   |true=>
    obtain⟨b,h4⟩:=h3 hp;simp[hp,O,h4]
 unfold bD;rw[e,vJ,if_pos (cX (by simpa using hl)),key l λ_ h=>h,map_some]
def lr {α:Type}(l:List α)(g:α->D)(h:α->D)(e:fi ρ=some (l.map g))(hl:l.length<=100000)
  (k:∀x∈l,∃G,tg (g x) (dB nT cap ρ)=some G/\∃b,fe G=some (h x,b)):bD fi nT cap tg fE fe ρ=some (.lst (l.map h),true):=by
 have:=gz (c:=fE) (fe:=fe) l g (λ_=>true) h e hl λx hx=>by
  obtain⟨G,h1,h2⟩:=k x hx;exact⟨G,h1,rfl,λ_=>h2⟩
 rw[List.filter_eq_self.mpr λ_ _=>rfl]at this;exact this
@[simp] def yy {α:Type}(f:α->Bool)(l:List α):sr (l.map λx=>.bl (f x))=some (l.map f):=by
 induction l with
 |nil=>rfl
 |cons x l g=>simp[g]
def zA (h0:0<=i)(h:i.toNat<z.cps.size)(hz:z.length<=100000):bK (.str z) (.int i)=some (.str ⟨#[z.cps.toList.getD i.toNat 0]⟩,false):=by
 have hh:i.toNat<z.cps.toList.length:=by simpa using h
 simp only[bK];rw[if_pos (cX hz),wn h0 hh];simp[List.getD,h]
def An (h0:0<=i)(h:i.toNat<ds.length):bK (.lst ds) (.int i)=some (ds.getD i.toNat .non,false):=by
 simp only[bK];rw[wn h0 h];simp[List.getD,h]
def z9 (h0:0<=i)(h:i.toNat<ds.length):bK (.tup ds) (.int i)=some (ds.getD i.toNat .non,false):=by
 simp only[bK];rw[wn h0 h];simp[List.getD,h]
def B2 {xs:LI}{i:Int}(h0:0<=i)(h:i.toNat<xs.length):bK (.lst (xs.map .int)) (.int i)=some (.int (xs.getD i.toNat 0),false):=by
 rw[An h0 (by simpa using h)];simp[List.getD,h]
def mod_lt {x m:Int}(hm:0<m):0<=x % m/\x % m<m:=⟨Int.emod_nonneg _ (by omega),Int.emod_lt_of_pos _ hm⟩
def Io:fx [.lst ds]=some (.int ds.length,false):=rfl
def B3:eD (.int i) (.int j)=some (.bl (decide (i=j)),false):=by simp
def bw (x y:D)(g:fa ρ=some (x,false))(e2:fb ρ=some (y,false))(G:op x y=z):f2 op fa fb ρ=z:=gH g e2 G
def cP (e:f ρ=some (.bl x,false)):bp f ρ=some x:=Am e
def bS (g:f ρ=some (d,false))(e2:fr ρ=some xs):ag f fr ρ=some (d::xs):=aE g e2
def aH (ds:LD)(e:fa ρ=some ds)(k:F ds=x):fA F fa ρ=x:=B1 e k
def fB (d:D)(e:f ρ=some (d,false))(n:bg d=true)(k:h (ρ.set i (some (d,false)))=r):az (aO i f) h ρ=r:=LO e n k
@[simp] noncomputable abbrev Xo (ab:LD)(aa:Int)(t:Env):Env:=some (.tup ab,false)::some (.int aa,false)::t
@[simp] noncomputable abbrev eR (ns:LI)(zs:LS)(G:Int)(g:LS)(R:LD)(a b:OB)(t:Env):Env:=some (.lst (ns.map .int),false)::some (.lst (zs.map .str),false)::some (.int G,false)::a::some (.lst (g.map .str),true)::some (.lst R,true)::b::t
end DL
namespace Lw
open PySem DL
noncomputable def yz:D:=(.tup [(.str "paper"),(.str "like"),(.str "copy")])
noncomputable def gT:List (PySem.Str×D):=[(("root" : Str),(.tup [(.str "office"),(.str "matters"),(.str "further"),(.str "rule")])),(("named" : Str),(.tup [(.str "day"),(.str "office"),(.str "person")])),(("chosen" : Str),(.tup [(.str "day"),(.str "by"),(.str "office"),(.str "person"),(.str "since")])),(("heir" : Str),(.tup [(.str "day"),(.str "by"),(.str "office"),(.str "person")])),(("death" : Str),(.tup [(.str "day"),(.str "person")])),(("lost" : Str),(.tup [(.str "day"),(.str "person")])),(("found" : Str),(.tup [(.str "day"),(.str "person")])),(("leave" : Str),(.tup [(.str "day"),(.str "by"),(.str "person"),(.str "matters"),(.str "stretch"),(.str "further")])),(("paper" : Str),(.tup [(.str "day"),(.str "by"),(.str "matters"),(.str "stretch"),(.str "whom"),(.str "pieces")])),(("like" : Str),(.tup [(.str "day"),(.str "by"),(.str "matters"),(.str "stretch"),(.str "whom"),(.str "of"),(.str "changes")])),(("copy" : Str),(.tup [(.str "day"),(.str "by"),(.str "of")])),(("call" : Str),(.tup [(.str "day"),(.str "by"),(.str "of")]))]
noncomputable def ii:D:=(.tup [(.str "chosen"),(.str "heir"),(.str "leave"),(.str "paper"),(.str "like"),(.str "copy"),(.str "call")])
def tY:FS :=
  (aX (f2 bK (dZ 0 1) (fI 0)))
def aK:=aL tY 1 0
def tZ:FS :=
  (aX (f2 bK (dZ 0 1) (f2 aV (fI 1) (f2 (oQ gT) (fA aK (fV 0 aj)) (ah 1)))))
def aq:=aL tZ 2 0
def y0:FS :=
  (az (eI (bp (f2 eD (fA aK (fV 0 aj)) (fS "root"))) (aX (fC .non)) bq)
  (aX (fA aq (fV 0 (ag (fS "day") aj)))))
def aP:=aL y0 1 0
def B4:FS :=
  (aX (bD (E1 (ah 0)) 2 [1] (Hz [0,1]) (bp (f2 wR (dZ 1 0) (ah 2))) (ah 0)))
def cA:=aL B4 2 0
def Fi:FS :=
  (aX (fA be (ag (fA aP (ag (f2 bK (ah 0) (ah 1)) aj)) (fV 1 aj))))
def fj:=aL Fi 2 0
def qF:FS :=
  (az (aO 2 (bD (bV (fA cA (fV 0 (fV 1 aj)))) 1 [0] (cB 0) (bp (f2 lA (fA aP (ag (f2 bK (ah 1) (ah 0)) aj)) (fC .non))) (ah 0)))
  (aX (qm (ah 2) (qk [0] (fA fj (fV 1 (fV 0 aj)))))))
def dL:=aL qF 2 1
def oz:FS :=
  (aX (fA be (ag (dZ 0 0) (ag (dZ 0 2) (ag (dZ 0 4) aj)))))
def g7:=aL oz 1 0
def B5:FS :=
  (az (aO 2 (bD (bV (fA cA (fV 0 (fV 1 aj)))) 1 [0] (cB 0) fE (f2 bK (ah 1) (ah 0))))
  (aX (fA jC (ag (bD (bV (ah 2)) 1 [] (cB 0) (bp (f2 eD (fA aK (fV 0 aj)) (fS "root"))) (fA be (ag (fA aq (fV 0 (ag (fS "office") aj))) (fV 0 aj)))) aj))))
def gl:=aL B5 2 1
def qG:FS :=
  (aX (lb (nu wR Lh (fI 0) (ah 2) (fA fx (fV 0 aj))) (f2 wR (f2 bK (f2 bK (ah 0) (ah 2)) (fI 0)) (ah 1))))
def c9:=aL qG 3 0
def B6:FS :=
  (aX (lb (f2 sk (fA aK (fV 0 aj)) (ah 1)) (lb (f2 eD (fA aq (fV 0 (ag (fS "person") aj))) (ah 2)) (f2 wR (fA aP (fV 0 aj)) (ah 3)))))
def pz:=aL B6 4 0
def ua:FS :=
  (aX (bD (bV (fA cA (fV 0 (fV 1 aj)))) 1 [2,3,4,0] (cB 0) (bp (fA pz (ag (f2 bK (ah 4) (ah 0)) (fV 1 (fV 2 (fV 3 aj)))))) (ah 0)))
def gY:=aL ua 5 0
def B7:FS :=
  (aX (f2 eD (fA fx (ag (fA gY (fV 0 (fV 1 (ag (fA be (ag (fS "death") aj)) (fV 2 (fV 3 aj)))))) aj)) (fI 0)))
def m8:=aL B7 4 0
def qH:FS :=
  (az (aO 4 (fA gY (fV 0 (fV 1 (ag (fA be (ag (fS "lost") (ag (fS "found") aj))) (fV 2 (fV 3 aj)))))))
  (az (eI (bp (f2 eD (fA fx (fV 4 aj)) (fI 0))) (aX (fC (.bl true))) bq)
  (aX (f2 eD (fA aK (ag (f2 bK (ah 0) (tN (ah 4) (qk [0] (fA fj (fV 1 (fV 0 aj)))))) aj)) (fS "found")))))
def lJ:=aL qH 4 1
def qI:FS :=
  (az (eI (jf (fD (bp (fA c9 (fV 0 (fV 1 (fV 2 aj)))))) (bp (f2 eM (fA aK (ag (f2 bK (ah 0) (ah 2)) aj)) (fC ii)))) (aX (fC (.bl false))) bq)
  (az (aO 3 (fA aq (ag (f2 bK (ah 0) (ah 2)) (ag (fS "by") aj))))
  (az (aO 4 (fA aP (ag (f2 bK (ah 0) (ah 2)) aj)))
  (aX (lb (fA m8 (fV 0 (fV 1 (fV 3 (fV 4 aj))))) (fA lJ (fV 0 (fV 1 (fV 3 (fV 4 aj))))))))))
def dM:=aL qI 3 2
def ub:FS :=
  (aX (lb (f2 wR (dZ 1 0) (ah 0)) (Hl (f2 DB (dZ 1 1) (fC .non)) (f2 Lh (ah 0) (dZ 1 1)))))
def jr:=aL ub 2 0
def qJ:FS :=
  (aX (fA jr (fV 1 (ag (fA be (ag (dZ 0 2) (ag (dZ 0 3) aj))) aj))))
def cM:=aL qJ 2 0
def qK:FS :=
  (aX (fA be (ag (dZ 0 2) (ag (dZ 0 4) aj))))
def di:=aL qK 1 0
def qL:FS :=
  (az (eI (bp (f2 eD (ah 1) (fS "last"))) (aX (f2 bK (tN (ah 0) (sA di)) (fI 1))) bq)
  (aX (f2 bK (tO (ah 0) (sA di)) (fI 1))))
def lK:=aL qL 2 0
def o0:FS :=
  (az (aO 3 (bD (bV (ah 0)) 1 [2,1] (cB 0) (dq (bp (f2 eD (dZ 0 0) (fA aq (fV 2 (ag (fS "office") aj))))) (bp (fA cM (fV 0 (fV 1 aj))))) (ah 0)))
  (az (aO 4 (f1 ia (bD (bV (ah 3)) 1 [] (cB 0) fE (dZ 0 1))))
  (az (eI (bp (f2 eD (fA fx (fV 4 aj)) (fI 0))) (aX (fA be (ag (fS "none") aj))) bq)
  (az (eI (dq (bp (f2 Gm (fA fx (fV 4 aj)) (fI 1))) (bp (f2 eD (fA aq (fV 1 (ag (fS "rule") aj))) (fS "open")))) (aX (fA be (ag (fS "parted") (fV 4 aj)))) bq)
  (az (aO 5 (fA lK (fV 3 (ag (fA aq (fV 1 (ag (fS "rule") aj))) aj))))
  (az (aO 6 (tO (bD (bV (ah 3)) 1 [5] (cB 0) (bp (f2 eD (dZ 0 1) (ah 1))) (ah 0)) (sA di)))
  (aX (fA be (ag (fS "one") (fV 5 (ag (dZ 6 4) aj)))))))))))
def dN:=aL o0 3 4
def m9:FS :=
  (aX (f2 eD (wS (fA dN (fV 0 (fV 1 (fV 3 aj)))) fG (fu (fI 2))) (fA be (ag (fS "one") (fV 2 aj)))))
def cE:=aL m9 4 0
def js:FS :=
  (az (aO 3 (f2 bK (ah 0) (ah 2)))
  (az (aO 4 (fA gY (fV 0 (fV 1 (ag (fA be (ag (fS "death") aj)) (ag (fA aq (fV 3 (ag (fS "person") aj))) (ag (fA aP (fV 3 aj)) aj)))))))
  (aX (f2 eD (tO (ah 4) (qk [0] (fA fj (fV 1 (fV 0 aj))))) (ah 2)))))
def fX:=aL js 3 2
def y4:FS :=
  (az (aO 4 (f2 bK (ah 0) (ah 3)))
  (az (eI (bp (f2 eD (fA aK (fV 4 aj)) (fS "death"))) (aX (fA fX (fV 0 (fV 1 (fV 3 aj))))) bq)
  (az (eI (bp (f2 eM (fA aK (fV 4 aj)) (fA be (ag (fS "named") (ag (fS "chosen") (ag (fS "heir") aj)))))) (aX (fC (.bl false))) bq)
  (az (aO 5 (f2 EO (fA gl (fV 0 (fV 1 aj))) (fA aq (fV 4 (ag (fS "office") aj)))))
  (az (eI (bp (f2 DB (ah 5) (fC .non))) (aX (fC (.bl false))) bq)
  (az (eI (bp (f2 eD (fA aK (fV 4 aj)) (fS "named"))) (aX (fC (.bl true))) bq)
  (aX (lb (fA dM (fV 0 (fV 1 (fV 3 aj)))) (fA cE (fV 2 (fV 5 (ag (fA aq (fV 4 (ag (fS "by") aj))) (ag (fA aP (fV 4 aj)) aj)))))))))))))
def mB:=aL y4 4 2
def o3:FS :=
  (aX (fA be (ag (fA aq (fV 0 (ag (fS "office") aj))) (ag (fA aq (fV 0 (ag (fS "person") aj))) (fV 1 (ag (fC .non) (fV 2 aj)))))))
def g8:=aL o3 3 0
def qM:FS :=
  (eI (jf (bp (f2 eM (dZ 5 0) (ah 1))) (jf (bp (f2 sd (dZ 5 1) (ah 2))) (fD (jf (bp (fA cM (fV 5 (fV 3 aj)))) (bp (f2 Gm (dZ 5 2) (ah 3))))))) (jS 4 (ah 5)) (eI (bp (f2 Lh (dZ 5 2) (ah 3))) (jS 4 (fA be (ag (dZ 5 0) (fV 2 (ag (dZ 5 2) (fV 3 (ag (dZ 5 4) aj))))))) bq))
def B8:FS :=
  (az (aO 4 (fA bv aj))
  (az (l8 (bV (ah 0)) (cB 5) qM)
  (iE 4)))
def p0:=aL B8 4 2
def kx:FS :=
  (az (aO 3 (fA aq (fV 1 (ag (fS "since") aj))))
  (az (aO 4 (fA p0 (fV 0 (ag (fA bv (ag (fA aq (fV 1 (ag (fS "office") aj))) aj)) (ag (fA aq (fV 1 (ag (fS "by") aj))) (fV 3 aj))))))
  (aX (f2 aV (ah 4) (fA bv (ag (fA g8 (fV 1 (fV 3 (fV 2 aj)))) aj))))))
def ij:=aL kx 3 2
def gU:FS :=
  (az (aO 9 (EX (ah 3) (fV 8 (fV 5 aj))))
  (eI (dq (bp (f2 lA (ah 9) (fC .non))) (bp (fA m8 (fV 0 (fV 1 (fV 9 (fV 6 aj))))))) (jS 7 (fA be (fV 8 (fV 9 (fV 6 (ag (fC .non) (fV 4 aj))))))) bq))
def o4:FS :=
  (az (aO 5 (fA aq (ag (f2 bK (ah 0) (ah 4)) (ag (fS "person") aj))))
  (az (aO 6 (fA aP (ag (f2 bK (ah 0) (ah 4)) aj)))
  (az (aO 7 (fA bv aj))
  (az (Go [5,6] (l8 (bV (f1 ia (bD (bV (ah 2)) 1 [5,6] (cB 0) (dq (bp (f2 eD (dZ 0 1) (ah 1))) (bp (fA cM (fV 0 (fV 2 aj))))) (dZ 0 0)))) (cB 8) gU))
  (iE 7)))))
def ky:=aL o4 5 5
def ls:FS :=
  (az (aO 5 (bD (bV (ah 2)) 1 [] (cB 0) fE (dZ 0 0)))
  (az (aO 6 (fA p0 (fV 2 (fV 5 (ag (fA aq (ag (f2 bK (ah 0) (ah 4)) (ag (fS "person") aj))) (ag (fA aP (ag (f2 bK (ah 0) (ah 4)) aj)) aj))))))
  (aX (f2 aV (ah 6) (fA ky (fV 0 (fV 1 (fV 2 (fV 3 (fV 4 aj))))))))))
def iV:=aL ls 5 2
def kR:FS :=
  (az (aO 5 (f2 bK (ah 0) (ah 4)))
  (az (eI (fD (bp (fA mB (fV 0 (fV 1 (fV 2 (fV 4 aj))))))) Jy bq)
  (eI (bp (f2 eD (fA aK (fV 5 aj)) (fS "named"))) (aO 2 (f2 aV (ah 2) (fA bv (ag (fA g8 (fV 5 (ag (fA aP (fV 5 aj)) (fV 4 aj)))) aj)))) (eI (bp (f2 eD (fA aK (fV 5 aj)) (fS "chosen"))) (aO 2 (fA ij (fV 2 (fV 5 (fV 4 aj))))) (eI (bp (f2 eD (fA aK (fV 5 aj)) (fS "heir"))) (tS 3 (ag (fA aq (fV 5 (ag (fS "office") aj))) (ag (fA aq (fV 5 (ag (fS "by") aj))) aj)) (fA aq (fV 5 (ag (fS "person") aj)))) (aO 2 (fA iV (fV 0 (fV 1 (fV 2 (fV 3 (fV 4 aj))))))))))))
def y6:FS :=
  (az (aO 2 (fA bv aj))
  (az (ER 3)
  (az (l8 (bV (fA dL (fV 0 (fV 1 aj)))) (cB 4) kR)
  (aX (qm (ah 2) (sA g7))))))
def k6:=aL y6 2 4
def qN:FS :=
  (aX (lb (fA c9 (fV 0 (fV 1 (fV 2 aj)))) (f2 sk (fA aK (ag (f2 bK (ah 0) (ah 2)) aj)) (fC yz))))
def fm:=aL qN 3 0
def qO:FS :=
  (aX (lb (fA c9 (fV 0 (fV 1 (fV 2 aj)))) (f2 eD (fA aK (ag (f2 bK (ah 0) (ah 2)) aj)) (fS "leave"))))
def fY:=aL qO 3 0
def qP:FS :=
  (aX (Hl (fA fY (fV 0 (fV 1 (fV 2 aj)))) (fA fm (fV 0 (fV 1 (fV 2 aj))))))
def dO:=aL qP 3 0
def qQ:FS :=
  (aX (f2 eD (f2 NH (ah 0) (ah 1)) (ah 1)))
def io:=aL qQ 2 0
def o5:FS :=
  (az (eI (fD (bp (fA io (ag (fA aq (fV 1 (ag (fS "matters") aj))) (ag (fA aq (fV 0 (ag (fS "matters") aj))) aj))))) (aX (fS "matters")) bq)
  (az (eI (dq (bp (f2 eD (fA aK (fV 0 aj)) (fS "leave"))) (bp (f2 Qw (fA aq (fV 0 (ag (fS "further") aj))) (fA aq (fV 1 (ag (fS "further") aj)))))) (aX (fS "further")) bq)
  (aX (fC .non))))
def iH:=aL o5 2 0
def mC:FS :=
  (az (eI (fD (bp (fA cE (fV 0 (fV 2 (ag (fA aq (fV 1 (ag (fS "by") aj))) (ag (fA aP (fV 1 aj)) aj))))))) (aX (fS "holder")) bq)
  (aX (fA iH (fV 1 (fV 2 aj)))))
def gV:=aL mC 3 0
def k7:FS :=
  (az (aO 4 (f2 bK (ah 0) (ah 3)))
  (az (aO 5 (bD (qz (fA gl (fV 0 (fV 1 aj)))) 1 [2,4] (cB 0) (bp (f2 DB (fA gV (fV 1 (fV 2 (fV 0 aj)))) (fC .non))) (ah 0)))
  (aX (bD (bV (ah 5)) 1 [2,4] (cB 0) fE (fA be (ag (fS "office") (ag (fA aq (fV 0 (ag (fS "office") aj))) (ag (f2 bK (fA dN (fV 1 (fV 0 (ag (fA aP (fV 2 aj)) aj)))) (fI 2)) aj))))))))
def iq:=aL k7 4 2
def lu:FS :=
  (az (eI (bp (f2 DB (ah 1) (fC .non))) (aX (fC (.bl true))) bq)
  (aX (lb (f2 lA (ah 0) (fC .non)) (f2 wR (ah 0) (ah 1)))))
def iW:=aL lu 2 0
def o6:FS :=
  (aX (lb (f2 wR (dZ 1 0) (dZ 0 0)) (fA iW (ag (dZ 0 1) (ag (dZ 1 1) aj)))))
def iI:=aL o6 2 0
def qS:FS :=
  (aX (f2 Km (fA fj (fV 0 (fV 1 aj))) (fA fj (fV 0 (fV 2 aj)))))
def fZ:=aL qS 3 0
def o7:FS :=
  (az (aO 3 (f2 bK (ah 0) (ah 1)))
  (az (aO 4 (fA aq (ag (f2 bK (ah 0) (ah 2)) (ag (fS "stretch") aj))))
  (az (eI (fD (bp (fA fZ (fV 0 (fV 2 (fV 1 aj)))))) (aX (fS "order")) bq)
  (az (eI (jf (fD (bp (fA jr (ag (fA aP (fV 3 aj)) (fV 4 aj))))) (fD (bp (fA iI (ag (fA aq (fV 3 (ag (fS "stretch") aj))) (fV 4 aj)))))) (aX (fS "days")) bq)
  (aX (fA iH (fV 3 (ag (f2 bK (ah 0) (ah 2)) aj))))))))
def iJ:=aL o7 3 2
def o8:FS :=
  (az (aO 3 (bD (bV (fA cA (fV 0 (fV 1 aj)))) 1 [0,1] (cB 0) (bp (fA fY (fV 1 (fV 2 (fV 0 aj))))) (ah 0)))
  (aX (bD (bV (ah 3)) 1 [2,0] (cB 0) (bp (f2 eD (fA aq (ag (f2 bK (ah 2) (ah 0)) (ag (fS "person") aj))) (ah 1))) (ah 0))))
def k8:=aL o8 3 1
def lw:FS :=
  (az (aO 3 (fA k8 (fV 0 (fV 1 (ag (fA aq (ag (f2 bK (ah 0) (ah 2)) (ag (fS "by") aj))) aj)))))
  (aX (bD (bV (ah 3)) 1 [0,2] (cB 0) (bp (f2 DB (fA iJ (fV 1 (fV 2 (fV 0 aj)))) (fC .non))) (fA be (ag (fS "leave") (fV 0 aj))))))
def iX:=aL lw 3 1
def mD:FS :=
  (az (aO 3 (fA aq (ag (f2 bK (ah 0) (ah 2)) (ag (fS "of") aj))))
  (az (eI (dq (bp (fA fm (fV 0 (fV 1 (fV 3 aj))))) (bp (fA fZ (fV 0 (fV 3 (fV 2 aj)))))) (aX (fA bv (ag (fA be (ag (fS "copy") (fV 3 aj))) aj))) bq)
  (aX (fA bv aj))))
def jE:=aL mD 3 1
def qT:FS :=
  (az (eI (fD (bp (fA dO (fV 0 (fV 1 (fV 3 aj)))))) (aX (fA bv aj)) bq)
  (az (eI (bp (f2 eD (fA aK (ag (f2 bK (ah 0) (ah 3)) aj)) (fS "copy"))) (aX (fA jE (fV 0 (fV 1 (fV 3 aj))))) bq)
  (az (aO 4 (f2 aV (fA iq (fV 0 (fV 1 (fV 2 (fV 3 aj))))) (fA iX (fV 0 (fV 1 (fV 3 aj))))))
  (aX (Ai (ah 4) (qk [] (fA be (ag (f2 bK (ah 0) (f1 nw (fI 1))) (fV 0 aj)))))))))
def dP:=aL qT 4 1
def qU:FS :=
  (az (aO 5 (f2 bK (ah 0) (ah 4)))
  (az (aO 6 (fA aq (ag (f2 bK (ah 0) (ah 3)) (ag (fS "by") aj))))
  (az (eI (bp (f2 eD (ah 6) (fA aq (fV 5 (ag (fS "by") aj))))) (aX (fC (.bl true))) bq)
  (az (eI (bp (f2 eD (fA aK (fV 5 aj)) (fS "copy"))) (aX (fC (.bl false))) bq)
  (az (aO 7 (bD (qz (fA gl (fV 0 (fV 1 aj)))) 1 [5] (cB 0) (bp (fA io (ag (fA aq (fV 0 (ag (fS "matters") aj))) (ag (fA aq (fV 1 (ag (fS "matters") aj))) aj)))) (ah 0)))
  (aX (fA su (ag (bD (bV (ah 7)) 1 [2,6,0,3] (cB 0) fE (fA cE (fV 1 (fV 0 (fV 2 (ag (fA aP (ag (f2 bK (ah 3) (ah 4)) aj)) aj)))))) aj))))))))
def lL:=aL qU 5 3
def qV:FS :=
  (az (aO 6 (f2 bK (ah 0) (ah 3)))
  (az (eI (jf (bp (f2 sd (fA aK (fV 6 aj)) (fS "call"))) (jf (bp (f2 sd (fA aq (fV 6 (ag (fS "of") aj))) (ah 4))) (bp (f2 Gm (fA aP (fV 6 aj)) (ah 5))))) (aX (fC (.bl false))) bq)
  (aX (lb (fA dM (fV 0 (fV 1 (fV 3 aj)))) (fA lL (fV 0 (fV 1 (fV 2 (fV 3 (fV 4 aj))))))))))
def jF:=aL qV 6 1
def qW:FS :=
  (az (eI (fD (bp (fA dO (fV 0 (fV 1 (fV 3 aj)))))) (aX (fA bv aj)) bq)
  (aX (bD (bV (fA cA (fV 0 (fV 1 aj)))) 1 [0,1,2,3,4] (cB 0) (bp (fA jF (fV 1 (fV 2 (fV 3 (fV 0 (fV 4 (fV 5 aj)))))))) (ah 0))))
def jG:=aL qW 5 0
def y7:FS :=
  (az (eI (jf (fD (bp (fA dM (fV 0 (fV 1 (fV 3 aj)))))) (bp (f2 Gm (fA aP (ag (f2 bK (ah 0) (ah 3)) aj)) (ah 4)))) (aX (fC (.bl false))) bq)
  (aX (f2 eD (fA fx (ag (fA jG (fV 0 (fV 1 (fV 2 (fV 3 (fV 4 aj)))))) aj)) (fI 0))))
def mE:=aL y7 5 0
def y8:FS :=
  (eI (dq (bp (fA dO (fV 0 (fV 1 (fV 5 aj))))) (bp (fA mE (fV 0 (fV 1 (fV 3 (fV 5 (fV 2 aj)))))))) (iU 4 (ah 5) (fA dP (fV 0 (fV 1 (fV 3 (fV 5 aj)))))) bq)
def B9:FS :=
  (az (xn 3 (fA k6 (fV 0 (fV 1 aj))))
  (az (yk 4)
  (az (l8 (bV (fA dL (fV 0 (fV 1 aj)))) (cB 5) y8)
  (iE 4))))
def mF:=aL B9 3 3
def BA:FS :=
  (aX (Hl (f2 eD (dZ 0 0) (fS "office")) (Ak (f2 P4 (dZ 0 1) (ah 1)) (f2 sk (dZ 0 1) (ah 1)))))
def gm:=aL BA 2 0
def y9:FS :=
  (eI (bp (fA su (ag (bD (bV (ah 3)) 1 [1] (cB 0) fE (fA gm (fV 0 (fV 1 aj)))) aj))) (ym 1 (ah 2) (fC (.bl true))) bq)
def BB:FS :=
  (az (yk 1)
  (az (l8 (mz (ah 0)) (Hz [2,3]) y9)
  (iE 1)))
def wt:=aL BB 1 3
def qY:FS :=
  (aX (fA jo (ag (fA wt (ag (fA mF (fV 0 (fV 1 (fV 2 aj)))) aj)) aj)))
def jH:=aL qY 3 0
def uc:FS :=
  (az (aO 4 (fA mF (fV 0 (fV 1 (fV 2 aj)))))
  (az (aO 5 (bD (mz (ah 4)) 2 [3] (Hz [0,1]) (bp (fA su (ag (bD (bV (ah 1)) 1 [2] (cB 0) fE (fA gm (fV 0 (fV 1 aj)))) aj))) (ah 0)))
  (aX (f2 eD (fA gk (fV 3 aj)) (fA gk (fV 5 aj))))))
def jt:=aL uc 4 2
def yA:FS :=
  (az (aO 2 (fI 5))
  (az (eI (bp (f2 Gm (fA fx (fV 0 aj)) (fI 0))) (aO 2 (f2 bK (ah 0) (f2 bA (ah 1) (fA fx (fV 0 aj))))) bq)
  (az (aO 2 (f2 bA (f2 fH (f2 aV (f2 aV (f2 bA (ah 2) (fI 2147483629)) (f2 fH (fI 6151) (ah 1))) (fI 1)) (fI 48271)) (fI 2147483647)))
  (aX (f2 bA (f2 fH (ah 2) (f2 aV (f2 aV (f2 bA (ah 2) (fI 65519)) (ah 1)) (fI 2))) (fI 2147483629))))))
def bB:=aL yA 2 1
def lM:FS :=
  (az (aO 6 (fA iF (fV 2 aj)))
  (az (CK 6 (ah 3) (f2 bK (ah 1) (f2 bA (f2 aV (f2 cO (ah 0) (fI 64)) (f2 fH (fI 3) (ah 5))) (fI 26))))
  (jS 4 (f2 oi (fS "") (ah 6)))))
def ud:FS :=
  (az (aO 1 (fS "abcdefghijklmnopqrstuvwxyz"))
  (az (aO 2 (bD (cU (f2 aV (fI 1) (f2 bA (ah 0) (fI 8)))) 1 [1,0] (cB 0) fE (f2 bK (ah 1) (f2 bA (f2 cO (ah 2) (f2 aV (fI 3) (f2 fH (fI 4) (ah 0)))) (fI 26)))))
  (az (aO 3 (f2 bA (f2 cO (ah 0) (fI 8)) (fA fx (fV 2 aj))))
  (az (aO 4 (fA bv aj))
  (az (jT (cU (fI 7)) (cB 5) lM)
  (az (eI (bp (f2 eD (f2 bA (f2 cO (ah 0) (fI 1000)) (fI 8)) (fI 1))) (CK 4 (fI 5) (dZ 4 0)) bq)
  (iE 4)))))))
def nG:=aL ud 1 6
def o9:FS :=
  (az (aO 3 (fA bv (ag (fA be (ag (fI 0) (ag (fC .non) aj))) (ag (fA be (fV 1 (ag (fC .non) aj))) (ag (fA be (fV 1 (ag (f2 aV (ah 1) (f2 fH (fI 3) (ah 2))) aj))) (ag (fA be (ag (fI 0) (ag (f2 aV (ah 1) (f2 fH (fI 2) (ah 2))) aj))) (ag (fA be (ag (fI 0) (ag (f2 fH (fI 9) (ah 2)) aj))) aj)))))))
  (az (aO 3 (f2 aV (ah 3) (fA bv (ag (fA be (ag (f2 aV (ah 1) (ah 2)) (ag (f2 aV (ah 1) (f2 fH (fI 4) (ah 2))) aj))) (ag (fA be (ag (f2 cO (ah 1) (fI 2)) (ag (f2 aV (ah 1) (f2 fH (fI 6) (ah 2))) aj))) (ag (fA be (ag (fI 0) (ag (fC .non) aj))) aj))))))
  (aX (f2 bK (ah 3) (f2 bA (ah 0) (fI 8))))))
def g9:=aL o9 3 1
def yB:FS :=
  (az (aO 7 (f2 aV (f2 aV (Dc (fA bv (ag (fS "leave") aj)) (fI 5)) (Dc (fA bv (ag (fS "paper") aj)) (fI 2))) (fA bv (ag (fS "like") (ag (fS "copy") (ag (fS "copy") (ag (fS "call") (ag (fS "call") aj))))))))
  (az (aO 7 (f2 aV (ah 7) (fA bv (ag (fS "named") (ag (fS "death") (ag (fS "lost") (ag (fS "found") (ag (fS "chosen") (ag (fS "heir") aj)))))))))
  (az (aO 8 (f2 bK (ah 7) (f2 bA (ah 1) (fI 18))))
  (az (aO 9 (f2 bK (ah 5) (f2 vh (f1 nw (fI 1)) (f2 bA (f2 cO (ah 1) (fI 18)) (fA Hu (ag (fI 3) (ag (fA fx (fV 5 aj)) aj)))))))
  (az (eI (bp (f2 eD (f2 bA (f2 cO (ah 1) (fI 54)) (fI 6)) (fI 1))) (aO 9 (f2 bK (ah 3) (f2 bA (f2 cO (ah 1) (fI 324)) (fI 5)))) bq)
  (az (aO 10 (f2 bK (ah 3) (f2 bA (f2 cO (ah 1) (fI 1620)) (fI 5))))
  (az (aO 11 (fA Ht (ag (fI 0) (ag (f2 vh (f2 vh (ah 0) (fI 1)) (f2 bA (ah 2) (fI 4))) aj))))
  (az (eI (bp (f2 eD (f2 bA (f2 cO (ah 2) (fI 4)) (fI 8)) (fI 1))) (aO 11 (f2 bA (f2 cO (ah 2) (fI 32)) (fI 60))) bq)
  (az (eI (bp (f2 eD (ah 8) (fS "leave"))) (az (aO 12 (f2 bK (fA bv (ag (fI 3) (ag (fI 1) (ag (fI 7) (ag (fI 2) (ag (fI 255) (ag (fI 5) (ag (fI 1) (ag (fI 3) aj))))))))) (f2 bA (f2 cO (ah 1) (fI 8100)) (fI 8))))
  (az (aO 13 (f2 bA (f2 cO (ah 2) (fI 256)) (f2 bK (fA bv (ag (fI 5) (ag (fI 5) (ag (fI 5) (ag (fI 10) aj))))) (f2 bA (f2 cO (ah 2) (fI 2560)) (fI 4)))))
  (aX (fA be (fV 8 (fV 4 (fV 9 (fV 10 (fV 12 (ag (fA g9 (ag (f2 cO (ah 2) (fI 32)) (fV 4 (fV 6 aj)))) (fV 13 aj))))))))))) bq)
  (az (eI (jf (bp (f2 eD (ah 8) (fS "paper"))) (bp (f2 eD (ah 8) (fS "like")))) (az (aO 12 (f2 bK (fA bv (ag (fI 1) (ag (fI 1) (ag (fI 3) (ag (fI 2) (ag (fI 4) (ag (fI 5) (ag (fI 128) (ag (fI 7) aj))))))))) (f2 bA (f2 cO (ah 1) (fI 8100)) (fI 8))))
  (az (aO 14 (fA be (fV 8 (fV 4 (fV 9 (fV 12 (ag (fA g9 (ag (f2 cO (ah 2) (fI 32)) (fV 4 (fV 6 aj)))) (ag (f2 bK (fA bv (ag (fC .non) (fV 10 aj))) (f2 bA (f2 cO (ah 2) (fI 256)) (fI 2))) aj))))))))
  (az (eI (bp (f2 eD (ah 8) (fS "like"))) (aX (f2 Bp (ah 14) (fA be (fV 11 (ag (fA be (ag (fA be (ag (fI 0) (fV 10 aj))) aj)) aj))))) bq)
  (aX (f2 Bp (ah 14) (fA be (ag (fA be (fV 10 aj)) aj))))))) bq)
  (az (eI (bp (f2 sk (ah 8) (fA be (ag (fS "copy") (ag (fS "call") aj))))) (aX (fA be (fV 8 (fV 4 (fV 9 (fV 11 aj)))))) bq)
  (az (eI (bp (f2 eD (ah 8) (fS "named"))) (aX (fA be (fV 8 (fV 4 (ag (f2 bK (ah 3) (f2 aV (fI 5) (f2 bA (ah 2) (fI 2)))) (fV 10 aj)))))) bq)
  (az (eI (bp (f2 eD (ah 8) (fS "chosen"))) (aX (fA be (fV 8 (fV 4 (fV 9 (ag (f2 bK (ah 3) (f2 aV (fI 5) (f2 bA (ah 2) (fI 2)))) (fV 10 (ag (f2 aV (ah 4) (f2 fH (f2 bA (f2 cO (ah 2) (fI 32)) (fI 3)) (ah 6))) aj)))))))) bq)
  (az (eI (bp (f2 eD (ah 8) (fS "heir"))) (aX (fA be (fV 8 (fV 4 (fV 9 (ag (f2 bK (ah 3) (f2 aV (fI 5) (f2 bA (ah 2) (fI 2)))) (fV 10 aj))))))) bq)
  (aX (fA be (fV 8 (fV 4 (fV 9 aj)))))))))))))))))))
def qZ:=aL yB 7 8
def nH:FS :=
  (az (aO 8 (f2 bK (fA bv (ag (fS "open") (ag (fS "first") (ag (fS "last") aj)))) (f2 bA (f2 cO (ah 4) (f2 aV (fI 64) (f2 fH (fI 9) (ah 7)))) (fI 3))))
  (az (aO 9 (f2 bK (fA bv (ag (fI 7) (ag (fI 255) (ag (fI 3) (ag (fI 15) aj))))) (f2 bA (f2 cO (ah 4) (f2 aV (fI 2) (f2 fH (fI 8) (ah 7)))) (fI 4))))
  (az (aO 10 (f2 fH (f2 fH (fA zN (ag (f2 eD (f2 bA (f2 cO (ah 4) (f2 aV (fI 512) (ah 7))) (fI 8)) (fI 1)) aj)) (fI 4)) (ah 2)))
  (az (aO 11 (f2 bA (f2 cO (ah 4) (f2 aV (fI 1024) (f2 fH (fI 5) (ah 7)))) (f2 bK (fA bv (ag (fI 5) (ag (fI 5) (ag (fI 10) aj)))) (f2 bA (f2 cO (ah 4) (f2 aV (fI 31) (ah 7))) (fI 3)))))
  (az (jS 5 (fA be (fV 10 (ag (fA be (ag (fS "root") (ag (f2 bK (ah 1) (f2 aV (fI 5) (ah 7))) (fV 9 (fV 11 (fV 8 aj)))))) aj))))
  (az (jS 5 (fA be (ag (fI 0) (ag (fA be (ag (fS "named") (ag (fI 0) (ag (f2 bK (ah 1) (f2 aV (fI 5) (ah 7))) (ag (f2 bK (ah 1) (ah 7)) aj))))) aj))))
  (jS 6 (f2 bK (ah 1) (ah 7)))))))))
def nI:FS :=
  (az (aO 12 (fA bB (fV 0 (ag (f2 aV (fI 5) (ah 7)) aj))))
  (az (aO 13 (f2 fH (f2 aV (f2 cO (ah 7) (fI 2)) (f2 bA (f2 cO (ah 12) (fI 7)) (fI 3))) (ah 2)))
  (az (aO 14 (fA qZ (ag (fA fx (fV 5 aj)) (ag (fA bB (fV 0 (ag (f2 aV (fI 30) (ah 7)) aj))) (ag (fA bB (fV 0 (ag (f2 aV (fI 60) (ah 7)) aj))) (fV 1 (fV 13 (fV 6 (fV 2 aj)))))))))
  (az (eI (bp (f2 sk (dZ 14 0) (fA be (ag (fS "leave") (ag (fS "named") aj))))) (jS 6 (dZ 14 3)) bq)
  (az (eI (bp (f2 eD (dZ 14 0) (fS "chosen"))) (jS 6 (dZ 14 4)) bq)
  (jS 5 (fA be (ag (f2 aV (ah 13) (f2 fH (f2 bK (fA bv (ag (fI 0) (ag (fI 0) (ag (fI 0) (ag (fI 0) (ag (fI 1) (ag (fI 4) aj))))))) (f2 bA (f2 cO (ah 12) (fI 21)) (fI 6))) (ah 2))) (fV 14 aj)))))))))
def yC:FS :=
  (az (aO 4 (fA bB (fV 0 (ag (fI 1) aj))))
  (az (aO 5 (fA bv aj))
  (az (aO 6 (fA bv aj))
  (az (jT (cU (f2 aV (fI 1) (f2 bA (ah 4) (fI 2)))) (cB 7) nH)
  (az (jT (cU (f2 aV (fI 3) (f2 bA (fA bB (fV 0 (ag (fI 2) aj))) (ah 3)))) (cB 7) nI)
  (aX (fA hZ (fV 5 aj))))))))
def ra:=aL yC 4 11
def BC:FS :=
  (aX (fA jG (fV 0 (fV 1 (ag (fA k6 (fV 0 (fV 1 aj))) (fV 2 (fV 3 aj)))))))
def p4:=aL BC 4 0
def BD:FS :=
  (aX (fA dP (fV 0 (fV 1 (ag (fA k6 (fV 0 (fV 1 aj))) (fV 2 aj))))))
def wu:=aL BD 3 0
def mG:FS :=
  (az (xH [5,6] (f2 bK (ah 0) (ah 4)))
  (eI (dq (bp (f2 wR (ah 5) (ah 1))) (bp (f2 sk (dZ 6 0) (fA be (ag (fS "leave") (ag (fS "paper") (ag (fS "like") (ag (fS "copy") aj)))))))) (az (iU 3 (ah 4) (fA bv aj))
  (eI (dq (bp (f2 wR (dZ 6 1) (ah 2))) (dq (bp (fA dM (fV 0 (fV 1 (fV 4 aj))))) (bp (f2 eD (fA p4 (fV 0 (fV 1 (fV 4 (fV 2 aj))))) (fA bv aj))))) (iU 3 (ah 4) (fA wu (fV 0 (fV 1 (fV 4 aj))))) bq)) bq))
def oA:FS :=
  (az (yk 3)
  (az (jT (cU (fA fx (fV 0 aj))) (cB 4) mG)
  (iE 3)))
def k9:=aL oA 3 4
def yD:FS :=
  (eI (bp (f2 qr (ah 2) (ah 0))) (aX (fC (.bl false))) bq)
def mH:FS :=
  (az (aO 4 (fA su (ag (bD (bV (f2 L4 (ah 0) (ah 3))) 1 [1] (cB 0) fE (Hl (f2 eD (dZ 0 0) (fS "office")) (f2 sk (f2 bK (ah 0) (f1 nw (fI 1))) (ah 1)))) aj)))
  (eI (bp (f2 sd (ah 4) (f2 sk (ah 3) (ah 1)))) (aX (fC (.bl false))) bq))
def BE:FS :=
  (az (eI (bp (f2 Lh (f1 m5 (ah 1)) (fA fx (fV 1 aj)))) (aX (fC (.bl false))) bq)
  (az (l8 (bV (ah 1)) (cB 2) yD)
  (az (l8 (Fa (ah 0)) (cB 3) mH)
  (aX (fC (.bl true))))))
def p5:=aL BE 2 3
def rb:FS :=
  (Ii 2 (f2 bA (fA bB (fV 0 (ag (f2 aV (fI 120) (ah 3)) aj))) (f2 aV (ah 3) (fI 1))) (f2 bK (ah 1) (ah 3)))
def ue:FS :=
  (az (aO 2 (fA bv aj))
  (az (jT (cU (fA fx (fV 1 aj))) (cB 3) rb)
  (iE 2)))
def kT:=aL ue 2 2
def rd:FS :=
  (az (aO 5 (f2 vh (f2 bA (fA bB (fV 0 (ag (f2 aV (fI 92) (ah 4)) aj))) (f2 aV (ah 2) (fI 4))) (fI 2)))
  (az (aO 6 (f2 bA (fA bB (fV 0 (ag (f2 aV (fI 96) (ah 4)) aj))) (f2 aV (fA fx (fV 1 aj)) (fI 1))))
  (az (Go [6] (m4 3 (f2 aV (wS (ah 1) fG (fu (ah 6))) (wS (ah 1) (fu (f2 aV (ah 6) (fI 1))) fG))))
  (az (Go [5] (m4 3 (f2 aV (bD (bV (ah 1)) 1 [5] (cB 0) (bp (f2 sd (ah 0) (ah 1))) (ah 0)) (fA bv (fV 5 aj)))))
  (az (Go [5,6] (m4 3 (f2 aV (bD (bV (f2 aV (wS (ah 1) fG (fu (ah 6))) (wS (ah 1) (fu (f2 aV (ah 6) (fI 1))) fG))) 1 [5] (cB 0) (bp (f2 sd (ah 0) (ah 1))) (ah 0)) (fA bv (fV 5 aj)))))
  (Go [4] (m4 3 (f1 qB (bD (cU (f2 aV (ah 4) (fI 1))) 1 [2,0,4] (cB 0) fE (f2 bA (fA bB (fV 2 (ag (f2 aV (f2 aV (fI 100) (f2 fH (fI 4) (ah 3))) (ah 0)) aj))) (ah 1)))))))))))
def ug:FS :=
  (az (yv 3 (fV 1 (ag (fA kT (fV 0 (fV 1 aj))) aj)))
  (az (jT (cU (fI 4)) (cB 4) rd)
  (az (aO 3 (f2 aV (ah 3) (fA bv (ag (f2 aV (ah 1) (wS (ah 1) fG (fu (fI 1)))) (ag (f2 aV (wS (ah 1) (fu (f1 nw (fI 1))) fG) (ah 1)) aj)))))
  (aX (f2 aV (ah 3) (fA bv (ag (fA bv aj) (ag (bD (cU (ah 2)) 1 [1] (cB 0) (bp (f2 eM (ah 0) (ah 1))) (ah 0)) aj))))))))
def kU:=aL ug 3 4
def Fj:FS :=
  (az (aO 9 (fA iF (fV 8 aj)))
  (az (aO 10 (fA jt (fV 3 (fV 4 (fV 5 (fV 9 aj))))))
  (eI (jf (fD (bp (fA jX (fV 10 (ag (fC (.ty "bool")) aj))))) (jf (bp (f2 sd (ah 10) (fA p5 (fV 7 (fV 8 aj))))) (bp (f2 sd (ah 9) (ah 8))))) (aX (fC (.bl false))) bq)))
def JB:FS :=
  (az (aO 1 (fA nG (ag (fA bB (fV 0 (ag (fI 0) aj))) aj)))
  (az (aO 2 (f2 bK (fA bv (ag (fI 1) (ag (fI 1) (ag (fI 500) aj)))) (f2 bA (fA bB (fV 0 (ag (fI 3) aj))) (fI 3))))
  (az (aO 3 (fA ra (fV 0 (fV 1 (fV 2 (ag (fI 14) aj))))))
  (az (aO 4 (f2 bK (fA bv (ag (fI 9999) (ag (f2 fH (f2 bA (f2 cO (fA bB (fV 0 (ag (fI 3) aj))) (fI 3)) (fI 13)) (ah 2)) aj))) (f2 cO (f2 bA (fA bB (fV 0 (ag (fI 4) aj))) (fI 3)) (fI 2))))
  (az (aO 5 (f2 bK (fA bv (ag (fI 9999) (ag (f2 fH (f2 bA (f2 cO (fA bB (fV 0 (ag (fI 90) aj))) (fI 2)) (fI 13)) (ah 2)) aj))) (f2 bA (fA bB (fV 0 (ag (fI 90) aj))) (fI 2))))
  (az (aO 6 (fA jH (fV 3 (fV 4 (fV 5 aj)))))
  (az (aO 7 (fA k9 (fV 3 (fV 4 (fV 5 aj)))))
  (az (Go [3,6] (l8 (bV (fA kU (fV 0 (fV 6 (ag (fA fx (fV 3 aj)) aj))))) (cB 8) Fj))
  (aX (fA jt (fV 3 (fV 4 (fV 5 (fV 6 aj))))))))))))))
def F_law:=aL JB 1 10
end Lw
namespace DL
open PySem L2
theorem jI:∀(n m:Nat)(d:D),n<=m->aN n d=true->aN m d=true
 |n,m,.non,_,_=>by simp
 |n,m,.bl _,_,_=>by simp
 |n,m,.int _,_,_=>by simp
 |n,m,.str _,_,_=>by simp
 |n,m,.ty _,_,h=>by cases n<;>simp[aN]at h
 |n,m,.dk _ _,_,h=>by simp at h
 |n,m,.dt _ _,_,h=>by simp at h
 |0,m,.tup _,_,h=>by simp[aN]at h
 |0,m,.lst _,_,h=>by simp[aN]at h
 |n+1,0,_,h,_=>by omega
 |n+1,m+1,.tup ds,hl,h=>by
  simp only[aN,all_eq_true]at h ⊢;exact λd hd=>jI n m d (by omega) (h d hd)
 |n+1,m+1,.lst ds,hl,h=>by
  simp only[aN,all_eq_true]at h ⊢;exact λd hd=>jI n m d (by omega) (h d hd)
theorem nJ:∀(ds:LD),(∀d∈ds,cI d d=true)->eC ds ds=true
 |[],_=>by simp only[eC]
 |d::ds,h=>by
  simp only[eC,h d mX,Bool.true_and];exact nJ ds λe he=>h e (mZ _ he)
theorem re:∀(n:Nat)(d:D),aN n d=true->cI d d=true
 |n,.non,_=>by simp
 |n,.bl _,_=>by simp
 |n,.int _,_=>by simp
 |n,.str _,_=>by simp
 |n,.ty _,h=>by cases n<;>simp[aN]at h
 |n,.dk _ _,h=>by simp at h
 |n,.dt _ _,h=>by simp at h
 |0,.tup _,h=>by simp[aN]at h
 |0,.lst _,h=>by simp[aN]at h
 |n+1,.tup ds,h=>by
  simp only[aN,all_eq_true]at h;simp only[cI];exact nJ ds λd hd=>re n d (h d hd)
 |n+1,.lst ds,h=>by
  simp only[aN,all_eq_true]at h;simp only[cI];exact nJ ds λd hd=>re n d (h d hd)
def yE (I:Nat->Env->Prop)(ok:Nat->Bool)(ds:LD)(G:Env)(h0:I 0 G)
  (step:∀i x ρ,ds[i]? = some x->I i ρ->∃M,tg x ρ=some M/\((ok i=true/\∃ρ',g M=some (.nx ρ')/\I (i+1) ρ')∨(ok i=false/\g M=some (.rt d b)))):
  ((∀i,i<ds.length->ok i=true)/\∃ρ',gp tg g ds G=some (.nx ρ')/\I ds.length ρ')∨((∃i,i<ds.length/\ok i=false)/\gp tg g ds G=some (.rt d b)):=by
 have key:∀(es:LD)(i:Nat)(ρ:Env),ds.drop i=es->i+es.length=ds.length->I i ρ ->
   ((∀j,i<=j->j<ds.length->ok j=true)/\∃ρ',gp tg g es ρ=some (.nx ρ')/\I ds.length ρ')∨((∃j,j<ds.length/\ok j=false)/\gp tg g es ρ=some (.rt d b)):=by
  intro es;induction es with
  |nil=>
   intro i ρ e hl h;refine .inl ⟨λj h1 h2=>?_,ρ,by rw[xo],by rw[←hl];exact h⟩;simp at hl;omega
  |cons x es U=>
   intro i ρ e hl h;have hd:ds[i]? = some x:=by
    have:(ds.drop i)[0]? = some x:=by rw[e];rfl
    rwa [getElem?_drop,Nat.add_zero]at this
   have he:ds.drop (i+1)=es:=by rw[←List.drop_drop,e];rfl
   have hi:i<ds.length:=(vV hd).1;obtain⟨M,h1,⟨h2,ρ',h3,h4⟩|⟨h2,h3⟩⟩:=step i x ρ hd h
   ·rcases U (i+1) ρ' he (by simp at hl;omega) h4 with⟨O,ρ2,T,a3⟩|⟨O,T⟩
    ·refine .inl ⟨λj k1 k2=>?_,ρ2,?_,a3⟩
     ·by_cases q:j=i
      ·rw[q];exact h2
      ·exact O j (by omega) k2
     ·rw[kJ,h1];simp only[vJ,h3];exact T
    ·exact .inr ⟨O,by rw[kJ,h1];simp only[vJ,h3];exact T⟩
   ·exact .inr ⟨⟨i,hi,h2⟩,by rw[kJ,h1];simp only[vJ,h3]⟩
 rcases key ds 0 G (by simp) (by simp) h0 with⟨O,T⟩|a
 ·exact .inl ⟨λi hi=>O i (uN _) hi,T⟩
 ·exact .inr a
end DL
namespace DL
@[simp] noncomputable abbrev sF (d:D):OB:=some (d,false)
@[simp] noncomputable abbrev lT (ds:LD):OB:=some (.lst ds,true)
@[simp] noncomputable abbrev sI (x:Int):OB:=some (.int x,false)
@[simp] noncomputable abbrev sS (x:PySem.Str):OB:=some (.str x,false)
@[simp] noncomputable abbrev sT (x:LD):OB:=some (.tup x,false)
@[simp] noncomputable abbrev sL (x:LD):OB:=some (.lst x,false)
@[simp] noncomputable abbrev sO (x:Bool):OB:=some (.bl x,false)
def da {r:OB}{d:D}{b:Bool}(h:QC r d b=true:=by decide +kernel):r=some (d,b):=LM h
def cN {p q:Prop}[Decidable p](h:p)(n:decide p=false:=by decide +kernel):q:=absurd h (of_decide_eq_false n)
end DL
namespace Lw
open PySem DL L2
def Gr (d:D)(r:LD):nZ (d::r) 0=some d:=by have:=kn (xs:=d::r) (j:=0) (by simp);simpa using this
def Gs (d e:D)(r:LD):nZ (d::e::r) 1=some e:=by have:=kn (xs:=d::e::r) (j:=1) (by simp);simpa using this
def S3 (d e f:D)(r:LD):nZ (d::e::f::r) 2=some f:=by have:=kn (xs:=d::e::f::r) (j:=2) (by simp);simpa using this
noncomputable def cR (k:Str):Bool:=decide (k = "death") || decide (k = "lost") || decide (k = "found")
noncomputable def dQ (k:Str):Bool:=decide (k = "chosen") || decide (k = "heir") || decide (k = "leave") || decide (k = "paper") || decide (k = "like") || decide (k = "copy") || decide (k = "call")
structure DeedP (kind:Str)(aA:List D):Prop where
 flat:b8 aA=true
 plain:aA.all (aN 5)=true
 three:cR kind=true->∃(day:Int)(p:Str),aA=[.int day,.str p]
 slg:dQ kind=true->∃(day:Int)(p:Str)(r:List D),aA=.int day::.str p::r
noncomputable def row (h:Int)(kind:Str)(aA:LD):D:=.tup [.int h,.tup (.str kind::aA)]
def nL (r:D):Prop:=∃h kind aA,r=row h kind aA/\DeedP kind aA
def nL.flat (h:nL r):bg r=true:=by obtain⟨a,k,aA,rfl,dp⟩:=h;simp[row,dp.flat]
def nL.plain (h:nL r):aN 39 r=true:=by
 obtain⟨a,k,aA,rfl,dp⟩:=h;refine jI 7 39 _ (by decide) ?_;have:=dp.plain;simp only[row,aN,all_cons,all_nil,Bool.and_true,Bool.true_and];exact this
def bW (h:∀d∈ds,bg d=true):b8 ds=true:=by
 induction ds with
 |nil=>rfl
 |cons d r g=>simp[h d (by simp),g λe he=>h e (by simp[he])]
def dR (zs:LS):b8 (zs.map D.str)=true:=by
 induction zs with
 |nil=>rfl
 |cons a l g=>simp[g]
noncomputable def ba:D->Int
 |.tup (.int h::_)=>h
 |_=>0
noncomputable def kindOf:D->Str
 |.tup [_,.tup (.str k::_)]=>k
 |_=>("" : Str)
noncomputable def aF:D->Int
 |.tup [_,.tup (_::.int d::_)]=>d
 |_=>0
noncomputable def uh (p:Str)(day:Int):LD->Bool
 |[.int d,.str q]=>decide (q=p) && decide (d<=day)
 |_=>false
def told (g:LS)(p:Str)(day:Int):D->Bool
 |.tup [_,.tup (.str kind::aA)]=>decide (kind∈g) && uh p day aA
 |_=>false
def iK (h:Int)(kind:Str)(aA:LD):aK [row h kind aA]=sS kind:=av rfl (ax (by simp[row,Gs,Gr]))
def kB (h:cR k=true):k = "death" ∨ k = "lost" ∨ k = "found":=by
 unfold cR at h;simp only[or_eq_true,decide_eq_true_eq]at h;rcases h with (h|h)|h
 ·exact .inl h
 ·exact .inr (.inl h)
 ·exact .inr (.inr h)
def lN (h:dQ k=true):k = "chosen" ∨ k = "heir" ∨ k = "leave" ∨ k = "paper" ∨ k = "like" ∨ k = "copy" ∨ k = "call":=by
 unfold dQ at h;simp only[or_eq_true,decide_eq_true_eq]at h;rcases h with (((((h|h)|h)|h)|h)|h)|h
 ·exact .inl h
 ·exact .inr (.inl h)
 ·exact .inr (.inr (.inl h))
 ·exact .inr (.inr (.inr (.inl h)))
 ·exact .inr (.inr (.inr (.inr (.inl h))))
 ·exact .inr (.inr (.inr (.inr (.inr (.inl h)))))
 ·exact .inr (.inr (.inr (.inr (.inr (.inr h)))))
def Ip (h:cR k=true∨dQ k=true):oQ gT (.str k) (.str "day")=sI 0:=by
 rcases h with h|h
 ·rcases kB h with rfl|rfl|rfl<;>exact da
 ·rcases lN h with rfl|rfl|rfl|rfl|rfl|rfl|rfl<;>exact da
def Ao (h:cR k=true):oQ gT (.str k) (.str "person")=sI 1:=by
 rcases kB h with rfl|rfl|rfl<;>exact da
def Fk (h:cR k=true∨dQ k=true):eD (.str k) (.str "root")=sO false:=by
 rcases h with h|h
 ·rcases kB h with rfl|rfl|rfl<;>exact da
 ·rcases lN h with rfl|rfl|rfl|rfl|rfl|rfl|rfl<;>exact da
def bx {h:Int}{k:Str}{aA:LD}{part:Str}{i:Nat}{d:D}(hi:oQ gT (.str k) (.str part)=sI i)(hd:aA[i]? = some d):aq [row h k aA,.str part]=some (d,false):=by
 refine av rfl (ax ?_);refine bw (.tup (.str k::aA)) (.int (1+i)) (by simp[row,Gs]) (bw (.int 1) (.int i) rfl (bw (.str k) (.str part) (aH [row h k aA] rfl (iK _ _ _)) rfl hi) (by simp)) ?_;have g:i<aA.length:=(vV hd).1;have:nZ (.str k::aA) (1+(i:Int))=some d:=by
  have:=kn (xs:=(.str k:D)::aA) (j:=i+1) (by simp;omega);rw[show(1+(i:Int))=((i+1:Nat):Int) by omega,this];simp only[List.getElem_cons_succ];rw[vU g]at hd;exact hd
 simp[this]
def ju {h:Int}{k:Str}{aA:LD}{d:Int}{r:LD}(hk:cR k=true∨dQ k=true)(g:aA=.int d::r):aP [row h k aA]=sI d:=by
 subst g;refine av rfl (a9 (cP (bw (.str k) (.str "root") (aH [row h k (.int d::r)] rfl (iK _ _ _)) rfl (Fk hk))) (ax (aH [row h k (.int d::r),.str "day"] rfl (bx (i:=0) (Ip hk) rfl))))
def rf (k:Str)(g:LS):Gn (.str k) (g.map .str)=decide (k∈g):=by
 induction g with
 |nil=>simp[Gn]
 |cons w g G=>
  have:Gn (.str k) ((w::g).map .str)=(cI (.str w) (.str k) || Gn (.str k) (g.map .str)):=rfl;rw[this,G,xu];by_cases e:w=k
  ·simp[e]
  ·have M:¬k=w:=λz=>e z.symm;simp[e,M]
def nM (g:LS):(g.map D.str).all gs=true:=by
 induction g with
 |nil=>rfl
 |cons w g G=>simp[gs]
def ir (k:Str)(g:LS):sk (.str k) (.tup (g.map .str))=sO (decide (k∈g)):=by
 simp only[sk,hU,vJ,rf];rw[if_pos ⟨rfl,nM g⟩]
def Fl (M:nL r)(g:LS)(hw:∀w∈g,cR w=true)(p:Str)(day:Int):pz [r,.tup (g.map .str),.str p,.int day]=sO (told g p day r):=by
 obtain⟨h,kind,aA,rfl,dp⟩:=M;have G:f2 sk (fA aK (fV 0 aj)) (ah 1) [some (row h kind aA,false),sT (g.map .str),sS p,sI day]=sO (decide (kind∈g)) :=
  bw (.str kind) (.tup (g.map .str)) (aH [row h kind aA] rfl (iK _ _ _)) rfl (ir kind g)
 have O:told g p day (row h kind aA)=(decide (kind∈g) && uh p day aA):=rfl;rw[O];refine av rfl (ax (dJ (b1:=false) G λhk=>?_));have h3:=hw kind (of_decide_eq_true hk);obtain⟨d,q,rfl⟩:=dp.three h3;show lb _ _ _=sO (decide (q=p) && decide (d<=day));refine dJ (b1:=false) ?_ λ_=>?_
 ·exact bw (.str q) (.str p) (aH [row h kind [.int d,.str q],.str "person"] rfl (bx (i:=1) (Ao h3) rfl)) rfl (by simp)
 ·exact bw (.int d) (.int day) (aH [row h kind [.int d,.str q]] rfl (ju (.inl h3) rfl)) rfl (by simp)
def Fm (ds:LD):t6 ds=ds.zipIdx.map λx=>.tup [.int x.2,x.1]:=by
 unfold t6;apply ext_getElem?;intro i;simp[List.getElem?_mapIdx,List.getElem?_zipIdx];cases ds[i]?<;>simp
noncomputable def ak (ab:LD)(aa:Int):List (D×Nat):=ab.zipIdx.filter λx=>decide (ba x.1<=aa)
def kE (ab:LD)(g:∀r∈ab,nL r)(hl:ab.length<=1000)(aa:Int):cA [.tup ab,.int aa]=lT ((ak ab aa).map λx=>.int x.2):=by
 have hc:=gz (fi:=E1 (ah 0)) (nT:=2) (cap:=[1]) (tg:=Hz [0,1]) (c:=bp (f2 wR (dZ 1 0) (ah 2))) (fe:=ah 0) (ρ:=[sT ab,sI aa]) ab.zipIdx (λx=>.tup [.int x.2,x.1]) (λx=>decide (ba x.1<=aa)) (λx=>.int x.2)
  (by simp[Fm]) (by simp;omega) λx hx=>by
   obtain⟨h,kind,aA,e,_⟩:=g x.1 (List.fst_mem_of_mem_zipIdx hx);refine⟨_,rfl,cP ?_,λ_=>⟨false,by simp[dB]⟩⟩;simp[dB,e,row,Gr,ba]
 exact av rfl (ax hc)
def oR (ab:LD)(aa:Int)(g:LS)(p:Str)(day:Int):List (D×Nat):=(ak ab aa).filter λx=>told g p day x.1
def BF (h:x∈oR ab aa ws p day):ab[x.2]? = some x.1/\told ws p day x.1=true:=by
 obtain⟨h1,h2⟩:=vN h;exact⟨(List.mk_mem_zipIdx_iff_getElem? (x:=x.1) (i:=x.2)).mp (vN h1).1,h2⟩
def cy {ab:LD}{i:Nat}{r:D}(h:ab[i]? = some r):nZ ab (i:Int)=some r:=by
 obtain⟨g,e⟩:=vV h;rw[kn g,e]
def Iq (ab:LD)(aa:Int)(g:LS)(p:Str)(day:Int):(oR ab aa g p day).length<=ab.length:=by
 have h1:=vM (λx:D×Nat=>told g p day x.1) (ak ab aa);have h2:=vM (λx:D×Nat=>decide (ba x.1<=aa)) ab.zipIdx;rw[length_zipIdx]at h2;exact vR h1 h2
def wv (ab:LD)(G:∀r∈ab,nL r)(hl:ab.length<=1000)(aa:Int)(g:LS)(hw:∀w∈g,cR w=true)(p:Str)(day:Int):
  gY [.tup ab,.int aa,.tup (g.map .str),.str p,.int day]=lT ((oR ab aa g p day).map λx=>.int x.2):=by
 have hc:=gz (fi:=bV (fA cA (fV 0 (fV 1 aj)))) (nT:=1) (cap:=[2,3,4,0]) (tg:=cB 0) (c:=bp (fA pz (ag (f2 bK (ah 4) (ah 0)) (fV 1 (fV 2 (fV 3 aj)))))) (fe:=ah 0)
  (ρ:=[sT ab,sI aa,sT (g.map .str),sS p,sI day]) (ak ab aa) (λx=>.int x.2) (λx=>told g p day x.1) (λx=>.int x.2)
  (by
   show(fA cA (fV 0 (fV 1 aj)) _).bind _=_;rw[aH [.tup ab,.int aa] rfl (kE ab G hl aa)];rfl) (by have:=vM (λx:D×Nat=>decide (ba x.1<=aa)) ab.zipIdx;rw[length_zipIdx]at this;exact vR this (by omega)) λx hx=>by
   have M:ab[x.2]? = some x.1:=(List.mk_mem_zipIdx_iff_getElem? (x:=x.1) (i:=x.2)).mp (vN hx).1;refine⟨_,rfl,cP (aH [x.1,.tup (g.map .str),.str p,.int day] ?_ (Fl (G _ (vL M)) g hw p day)),λ_=>⟨false,by simp[dB]⟩⟩;have ha:=cy M;simp[dB,ha]
 exact av rfl (ax hc)
def kA (x:D×Nat):List At:=[.i (aF x.1),.i x.2]
def dS (a b:D×Nat):Bool:=decide (aF a.1<aF b.1∨(aF a.1=aF b.1/\(a.2:Int)<b.2))
def gI:D×Nat->List (D×Nat)->D×Nat
 |b,[]=>b
 |b,x::r=>if dS b x=true then gI x r else gI b r
def JD:List (D×Nat)->Option (D×Nat)
 |[]=>none
 |x::r=>some (gI x r)
def LR (a b c d:Int):bo [.i a,.i b] [.i c,.i d]=some (decide (a<c∨(a=c/\b<d))):=by
 rw[bo];by_cases h:a=c
 ·rw[if_pos h,bo];by_cases h2:b=d
  ·rw[if_pos h2,bo];simp[h,h2]
  ·rw[if_neg h2];simp[h]
 ·rw[if_neg h];simp[h]
def ww (a b:D×Nat):bo (kA a) (kA b)=some (dS a b):=LR _ _ _ _
def wx (l:List (D×Nat)):dc (l.map kA)=true:=by
 unfold dc;simp[all_eq_true,ww]
theorem nN:∀(r:List (D×Nat))(b:D×Nat),mu (kA b,.int b.2) (r.map λx=>(kA x,D.int x.2))=.int (gI b r).2
 |[],b=>rfl
 |x::r,b=>by
  rw[uY,mu,gI];show(if bo (kA b) (kA x)=some true then _ else _)=_;rw[ww];by_cases h:dS b x=true
  ·rw[if_pos h,if_pos (by rw[h])];exact nN r x
  ·rw[if_neg h,if_neg (by simpa using h)];exact nN r b
theorem rg:∀(r:List (D×Nat))(b:D×Nat),gI b r∈b::r
 |[],b=>by simp[gI]
 |x::r,b=>by
  rw[gI];split
  ·exact mZ _ (rg r x)
  ·rcases vP (rg r b)with h|h
   ·rw[h];exact mX
   ·exact mZ _ (mZ _ h)
theorem iu {α:Type}{f:D->Option D}{g h:α->D}:∀(l:List α),(∀x∈l,f (g x)=some (h x))->jl f (l.map g)=some (l.map h)
 |[],_=>rfl
 |x::l,hx=>by
  rw[uY,jl,hx x mX,vJ,iu l λy hy=>hx y (mZ _ hy)];rfl
theorem gZ {α:Type}{g:α->D}{h:α->List At}:∀(l:List α),(∀x∈l,mr (g x)=some (h x))->de (l.map g)=some (l.map h)
 |[],_=>rfl
 |x::l,hx=>by
  rw[uY,de,hx x mX,vJ,gZ l λy hy=>hx y (mZ _ hy)];rfl
noncomputable def mI:LS:=[("lost" : Str),"found"]
def oB:∀w∈mI,cR w=true:=by
 intro w hw;rcases vP hw with rfl|hw
 ·decide +kernel
 ·rcases vP hw with rfl|hw
  ·decide +kernel
  ·cases hw
def yF (ab:LD)(aa:Int)(p:Str)(day:Int):Bool:=match JD (oR ab aa mI p day) with
 |none=>true
 |some b=>decide (kindOf b.1 = "found")
def rh (hw:∀w∈ws,cR w=true)(G:nL r)(M:told ws p day r=true):∃h k d,r=row h k [.int d,.str p]/\cR k=true/\k∈ws/\d<=day:=by
 obtain⟨h,kind,aA,rfl,dp⟩:=G;have g:(decide (kind∈ws) && uh p day aA)=true:=M;rw[vC]at g;have hm:=of_decide_eq_true g.1;obtain⟨d,q,rfl⟩:=dp.three (hw _ hm);have hq:(decide (q=p) && decide (d<=day))=true:=g.2;rw[vC]at hq;have:=of_decide_eq_true hq.1;subst this;exact⟨h,kind,d,rfl,hw _ hm,hm,of_decide_eq_true hq.2⟩
def BG {ab:LD}{i:Nat}{h d:Int}{k p:Str}(g:ab[i]? = some (row h k [.int d,.str p]))(h3:cR k=true):fj [.tup ab,.int i]=sT [.int d,.int i]:=by
 have ha:=cy g;refine av rfl (ax (aH [.int d,.int i] (aE (d:=.int d) (b:=false) (aH [row h k [.int d,.str p]] (by simp[ha]) (ju (.inl h3) rfl)) rfl) (by simp[sizeLine])))
def Ir (ab:LD)(U:∀r∈ab,nL r)(hl:ab.length<=1000)(aa:Int)(p:Str)(day:Int):lJ [.tup ab,.int aa,.str p,.int day]=sO (yF ab aa p day):=by
 have ht:=wv ab U hl aa mI oB p day;have O:=Iq ab aa mI p day;have key:∀x∈oR ab aa mI p day,∃h k d,ab[x.2]? = some (row h k [.int d,.str p])/\x.1=row h k [.int d,.str p]/\cR k=true:=λx hx=>by
  obtain⟨G,T⟩:=BF hx;obtain⟨h,k,d,e,h3,_⟩:=rh oB (U _ (vL G)) T;exact⟨h,k,d,by rw[G,e],e,h3⟩
 unfold yF;generalize hsel:oR ab aa mI p day=sel at ht key O ⊢;have g:fA gY (fV 0 (fV 1 (ag (fA be (ag (fS "lost") (ag (fS "found") aj))) (fV 2 (fV 3 aj))))) [sT ab,sI aa,sS p,sI day,none]=lT (sel.map λx=>.int x.2) :=
  aH [.tup ab,.int aa,.tup (mI.map .str),.str p,.int day] (by simp[mI,sizeLine]) ht
 have M:b8 (sel.map λx=>D.int x.2)=true:=bW λd hd=>by obtain⟨x,_,rfl⟩:=vO hd;rfl
 cases sel with
 |nil=>exact av rfl (cz g M (bE (cP (by simp)) (ax rfl)))
 |cons x r=>
  refine av rfl (cz g M (a9 (cP (by simp;omega)) (ax ?_)));obtain⟨h,k,d,G,e,h3⟩:=key (gI x r) (rg r x);have hb:kindOf (gI x r).1=k:=by rw[e];rfl
  show _=some (D.bl (decide (kindOf (gI x r).1 = "found")),false);rw[hb];refine bw (.str k) (.str "found") (aH [row h k [.int d,.str p]] (aE (d:=row h k [.int d,.str p]) (b:=false) (bw (.tup ab) (.int (gI x r).2) rfl ?_ (by simp[cy G])) rfl) (iK _ _ _)) rfl (by simp);have hm:∀ρ:DL.Env,ρ[0]? = some (sT ab)->jl (qk [0] (fA fj (fV 1 (fV 0 aj))) ρ) ((x::r).map λx=>D.int x.2)=some ((x::r).map λx=>.tup [.int (aF x.1),.int x.2]):=λρ h0=>
   iu (x::r) λy hy=>by
    obtain⟨h,k,d,G,e,h3⟩:=key y hy;have hd:aF y.1=d:=by rw[e];rfl
    rw[hd];show(fA fj _ _).map _=_;rw[aH [.tup ab,.int y.2] (by simp[dB,h0]) (BG G h3)];rfl
  have hk:de ((x::r).map λx=>D.tup [.int (aF x.1),.int x.2])=some ((x::r).map kA):=gZ (x::r) λy _=>rfl;have hz:((x::r).map kA).zip ((x::r).map λx=>D.int x.2)=(kA x,.int x.2)::r.map λx=>(kA x,D.int x.2):=by
   rw[zip_map'];rfl
  show(tN (ah 4) _ _)=_;unfold tN L3;show((some (D.lst ((x::r).map λx=>D.int x.2),false)).bind _)=_;simp only[vJ];rw[hm _ rfl];simp only[vJ];rw[hk];simp only[vJ];rw[if_pos (wx _),hz];simp only[nN]
noncomputable def dU:LS:=[("death" : Str)]
def jJ:∀w∈dU,cR w=true:=by
 intro w hw;rcases vP hw with rfl|hw
 ·decide +kernel
 ·cases hw
def nO (ab:LD)(aa:Int)(p:Str)(day:Int):Bool:=(oR ab aa dU p day).isEmpty
def yG (ab:LD)(G:∀r∈ab,nL r)(hl:ab.length<=1000)(aa:Int)(p:Str)(day:Int):m8 [.tup ab,.int aa,.str p,.int day]=sO (nO ab aa p day):=by
 have g:=wv ab G hl aa dU jJ p day;unfold nO;generalize oR ab aa dU p day=sel at g ⊢;refine av rfl (ax (bw (.int ((sel.map λx=>D.int x.2).length:Nat)) (.int 0) ?_ rfl ?_))
 ·exact aH [.lst (sel.map λx=>.int x.2)] (aE (d:=.lst (sel.map λx=>.int x.2)) (b:=true) (aH [.tup ab,.int aa,.tup (dU.map .str),.str p,.int day] (by simp[sizeLine,dU]) g) rfl) Io
 ·rw[B3];cases sel<;>simp
  omega
noncomputable def cQ:D->Str
 |.tup [_,.tup (_::_::.str p::_)]=>p
 |_=>("" : Str)
noncomputable def yH:LS:=[("chosen" : Str),"heir","leave","paper","like","copy","call"]
def ri (k:Str):dQ k=decide (k∈yH):=by
 unfold dQ yH;simp[mem_cons,Bool.or_assoc]
def Ap:ii=.tup (yH.map .str):=rfl
def oC (k:Str)(g:LS):eM (.str k) (.tup (g.map .str))=sO (!decide (k∈g)):=by
 simp only[eM,hU,vJ,rf];rw[if_pos ⟨rfl,nM g⟩]
def Fo (h:dQ k=true):oQ gT (.str k) (.str "by")=sI 1:=by
 rcases lN h with rfl|rfl|rfl|rfl|rfl|rfl|rfl<;>exact da
def gJ (ab:LD)(aa:Int)(r:D):Bool:=(decide (ba r<=aa) && dQ (kindOf r)) && (nO ab aa (cQ r) (aF r) && yF ab aa (cQ r) (aF r))
def kF {ab:LD}{i:Nat}{h:Int}{kind:Str}{aA:LD}(g:ab[i]? = some (row h kind aA))(aa:Int):c9 [.tup ab,.int aa,.int i]=sO (decide (h<=aa)):=by
 have G:i<ab.length:=(vV g).1;have ha:=cy g;refine av rfl (ax ?_);have:=dJ (f1:=nu wR Lh (fI 0) (ah 2) (fA fx (fV 0 aj))) (f2:=f2 wR (f2 bK (f2 bK (ah 0) (ah 2)) (fI 0)) (ah 1)) (ρ:=[sT ab,sI aa,sI i]) (p:=true) (q:=decide (h<=aa)) (b1:=false)
  (by
   refine(yx (x:=.int 0) (y:=.int i) (z:=.int ab.length) (b1:=false) (b2:=false) (b3:=false) (b4:=false) (p:=true) (q:=true) rfl rfl (by simp) (by simp) λ_=>?_).trans rfl;simp;omega) λ_=>by simp[ha,row,Gr]
 exact this
def mJ (ab:LD)(M:∀r∈ab,nL r)(hl:ab.length<=1000)(aa:Int){i:Nat}{r:D}(O:ab[i]? = some r):dM [.tup ab,.int aa,.int i]=sO (gJ ab aa r):=by
 obtain⟨h,kind,aA,rfl,dp⟩:=M r (vL O);have hk:=kF O aa;have ha:=cy O;have G:∀(ρ:DL.Env),f2 bK (ah 0) (ah 2) ρ=some (row h kind aA,false)->fA aK (ag (f2 bK (ah 0) (ah 2)) aj) ρ=sS kind:=λρ e=>aH [row h kind aA] (aE e rfl) (iK _ _ _);have g:f2 bK (ah 0) (ah 2) [sT ab,sI aa,sI i,none,none]=some (row h kind aA,false):=by simp[ha]
 have hc:(jf (fD (bp (fA c9 (fV 0 (fV 1 (fV 2 aj)))))) (bp (f2 eM (fA aK (ag (f2 bK (ah 0) (ah 2)) aj)) (fC ii)))) [sT ab,sI aa,sI i,none,none]=some (!decide (h<=aa) || !dQ kind):=by
  refine cL (cx (cP (aH [.tup ab,.int aa,.int i] rfl hk))) λ_=>cP (bw (.str kind) ii (G _ g) rfl ?_);rw[Ap,ri];exact oC kind yH
 have hs:gJ ab aa (row h kind aA)=((decide (h<=aa) && dQ kind) && (nO ab aa (cQ (row h kind aA)) (aF (row h kind aA)) && yF ab aa (cQ (row h kind aA)) (aF (row h kind aA)))):=rfl;cases hb:(decide (h<=aa) && dQ kind) with
 |false=>
  rw[hs,hb];refine av rfl (bE (hc.trans ?_) (ax rfl));rw[←Bool.not_and,hb];rfl
 |true=>
  rw[hs,hb];rw[vC]at hb;obtain⟨day,p,T,rfl⟩:=dp.slg hb.2;show _=some (D.bl (true && (nO ab aa p day && yF ab aa p day)),false);rw[Bool.true_and];refine av rfl (a9 (hc.trans (by rw[hb.1,hb.2];rfl)) (fB (.str p) (aH [row h kind (.int day::.str p::T),.str "by"] (aE g rfl) (bx (i:=1) (Fo hb.2) rfl)) rfl (fB (.int day) (aH [row h kind (.int day::.str p::T)] (aE (d:=row h kind (.int day::.str p::T)) (b:=false) (by simp[ha]) rfl) (ju (.inr hb.2) rfl)) rfl (ax ?_))));exact dJ (b1:=false) (aH [.tup ab,.int aa,.str p,.int day] (by simp) (yG ab M hl aa p day)) λ_=>aH [.tup ab,.int aa,.str p,.int day] (by simp) (Ir ab M hl aa p day)
inductive Cd:Str->List D->Prop
 |root (o r:Str) (m f:Int):Cd ("root" : Str) [.str o,.int m,.int f,.str r]
 |named (d:Int) (o p:Str):Cd ("named" : Str) [.int d,.str o,.str p]
 |chosen (d:Int) (b o p:Str) (s:Int):Cd ("chosen" : Str) [.int d,.str b,.str o,.str p,.int s]
 |heir (d:Int) (b o p:Str):Cd ("heir" : Str) [.int d,.str b,.str o,.str p]
 |three (k:Str) (hk:k = "death" ∨ k = "lost" ∨ k = "found") (d:Int) (p:Str):Cd k [.int d,.str p]
 |other (k:Str) (hk:k = "leave" ∨ k = "paper" ∨ k = "like" ∨ k = "copy" ∨ k = "call") (d:Int) (b:Str) (r:List D) (hf:b8 r=true) (hp:r.all (aN 5)=true):Cd k (.int d::.str b::r)
def Cd.deed (h:Cd k r):DeedP k r:=by
 cases h with
 |root o rl m f=>exact⟨rfl,by simp,λh=>cN h,λh=>cN h⟩
 |named d o p=>exact⟨rfl,by simp,λh=>cN h,λh=>cN h⟩
 |chosen d b o p s=>exact⟨rfl,by simp,λh=>cN h,λ_=>⟨d,b,_,rfl⟩⟩
 |heir d b o p=>exact⟨rfl,by simp,λh=>cN h,λ_=>⟨d,b,_,rfl⟩⟩
 |three k hk d p=>exact⟨rfl,by simp,λ_=>⟨d,p,rfl⟩,λh=>by rcases hk with rfl|rfl|rfl<;>exact cN h⟩
 |other k hk d b r hf hp=>exact⟨by simp[hf],by simp only[all_cons,hp,aN,Bool.and_true],λh=>by rcases hk with rfl|rfl|rfl|rfl|rfl<;>exact cN h,λ_=>⟨d,b,r,rfl⟩⟩
def wy (r:D):Prop:=∃h k aA,r=row h k aA/\Cd k aA
def wy.rp (h:wy r):nL r:=by obtain⟨a,k,aA,rfl,d⟩:=h;exact⟨a,k,aA,rfl,d.deed⟩
def bf (r:D):Bool:=decide (kindOf r = "root")
def Cd.day (h:Cd k r)(hk:k ≠ "root"):∃d q,r=.int d::q:=by
 cases h with
 |root=>exact absurd rfl hk
 |named d=>exact⟨d,_,rfl⟩
 |chosen d=>exact⟨d,_,rfl⟩
 |heir d=>exact⟨d,_,rfl⟩
 |three _ _ d=>exact⟨d,_,rfl⟩
 |other _ _ d=>exact⟨d,_,rfl⟩
def Cd.day_idx (h:Cd k r)(hk:k ≠ "root"):oQ gT (.str k) (.str "day")=sI 0:=by
 cases h with
 |root=>exact absurd rfl hk
 |named=>exact da
 |chosen=>exact da
 |heir=>exact da
 |three _ hh=>rcases hh with rfl|rfl|rfl<;>exact da
 |other _ hh=>rcases hh with rfl|rfl|rfl|rfl|rfl<;>exact da
def bQ (e:f ρ=some (.str a,bb))(h:decide (a=b)=x):bp (f2 eD f (fS b)) ρ=some x:=cP (gH (x:=.str a) (y:=.str b) (b1:=bb) (b2:=false) e rfl (by rw[←h];simp))
def sD (r:D):D:=if bf r=true then .non else .int (aF r)
def iY (g:wy r):aK [r]=sS (kindOf r):=by
 obtain⟨h,k,aA,rfl,_⟩:=g;exact iK h k aA
def rj (g:wy r):aP [r]=some (sD r,false):=by
 obtain⟨h,k,aA,rfl,d⟩:=g;unfold sD;by_cases hk:k = "root"
 ·have:bf (row h k aA)=true:=decide_eq_true hk;rw[if_pos this];exact av rfl (bE (bQ (a:=k) (bb:=false) (aH [row h k aA] rfl (iK _ _ _)) (decide_eq_true hk)) (ax rfl))
 ·have:bf (row h k aA)=false:=decide_eq_false hk;rw[if_neg (by rw[this];decide)];obtain⟨dd,q,rfl⟩:=d.day hk;exact av rfl (a9 (bQ (a:=k) (bb:=false) (aH [row h k (.int dd::q)] rfl (iK _ _ _)) (decide_eq_false hk)) (ax (aH [row h k (.int dd::q),.str "day"] rfl (bx (i:=0) (d.day_idx hk) rfl))))
def gA (ab:LD):Prop:=ab.length<=60/\∀r∈ab,wy r
def gA.rp (g:gA ab):∀r∈ab,nL r:=λr G=>(g.2 r G).rp
def gA.le (g:gA ab):ab.length<=1000:=vR g.1 (by decide)
def b7 (h:x∈ak ab aa):ab[x.2]? = some x.1:=by
 obtain⟨h1,_⟩:=vN h;exact List.mem_zipIdx_iff_getElem?.mp h1
def cu (ab:LD)(aa:Int):(ak ab aa).length<=ab.length:=by
 have:=vM (λx:D×Nat=>decide (ba x.1<=aa)) ab.zipIdx;rw[length_zipIdx]at this;exact this
def dj (ab:LD)(aa:Int):((ak ab aa).map (·.2)).Nodup:=by
 have h1:(ab.zipIdx.map (·.2)).Nodup:=by rw[List.zipIdx_map_snd];exact List.nodup_range'
 exact List.Nodup.sublist (List.Sublist.map _ (filter_sublist)) h1
def cY (ab:LD)(aa:Int):List (D×Nat):=(ak ab aa).filter λx=>!bf x.1
def Ol (ab:LD)(aa:Int):List (D×Nat):=eP (λx=>c7 (kA x)) (cY ab aa)
def Fp (h:c7 (kA a)=c7 (kA b)):a.2=b.2:=by
 have h:[aF a.1,(a.2:Int)]=[aF b.1,(b.2:Int)]:=h;injection h with _ h;injection h with h;omega
def Iu (ha:a∈ak ab aa)(hb:b∈ak ab aa)(h:a.2=b.2):a=b:=by
 have h1:=b7 ha;have h2:=b7 hb;rw[h,h2]at h1;exact Prod.ext (vK h1).symm h
def oD (g:gA ab)(aa:Int):dL [.tup ab,.int aa]=lT ((Ol ab aa).map λx=>.int x.2):=by
 have hl:=g.1;have PQ:=cu ab aa;have M:∀x∈ak ab aa,nZ ab (x.2:Int)=some x.1/\wy x.1:=λx hx=>⟨cy (b7 hx),g.2 _ (vL (b7 hx))⟩;have hc:=gz (fi:=bV (fA cA (fV 0 (fV 1 aj)))) (nT:=1) (cap:=[0]) (tg:=cB 0) (c:=bp (f2 lA (fA aP (ag (f2 bK (ah 1) (ah 0)) aj)) (fC .non))) (fe:=ah 0) (ρ:=[sT ab,sI aa,none]) (ak ab aa) (λx=>.int x.2) (λx=>!bf x.1) (λx=>.int x.2)
  (by
   show(fA cA (fV 0 (fV 1 aj)) _).bind _=_;rw[aH [.tup ab,.int aa] rfl (kE ab g.rp g.le aa)];rfl) (by omega) λx hx=>by
   obtain⟨ha,T⟩:=M x hx;refine⟨_,rfl,cP (bw (sD x.1) .non (aH [x.1] (by simp[dB,ha]) (rj T)) rfl ?_),λ_=>⟨false,by simp[dB]⟩⟩;unfold sD;cases bf x.1<;>simp[CC]
 have U:bD (bV (fA cA (fV 0 (fV 1 aj)))) 1 [0] (cB 0) (bp (f2 lA (fA aP (ag (f2 bK (ah 1) (ah 0)) aj)) (fC .non))) (ah 0) [sT ab,sI aa,none]=lT ((cY ab aa).map λx=>.int x.2):=hc;have My:b8 ((cY ab aa).map λx=>D.int x.2)=true:=bW λd hd=>by obtain⟨x,_,rfl⟩:=vO hd;rfl
 have JY:(cY ab aa).length<=60:=vR (vM _ _) (by omega);have G:∀x∈cY ab aa,x∈ak ab aa/\bf x.1=false:=λx hx=>by
  obtain⟨h1,h2⟩:=vN hx;exact⟨h1,by simpa using h2⟩
 have hm:∀ρ:DL.Env,ρ[0]? = some (sT ab)->jl (qk [0] (fA fj (fV 1 (fV 0 aj))) ρ) ((cY ab aa).map λx=>.int x.2)=some ((cY ab aa).map λx=>.tup [.int (aF x.1),.int x.2]):=λρ h0=>
  iu (cY ab aa) λx hx=>by
   obtain⟨h1,h2⟩:=G x hx;obtain⟨ha,T⟩:=M x h1;have hd:=rj T;unfold sD at hd;rw[h2,if_neg (by decide)]at hd;have hr:fj [.tup ab,.int x.2]=sT [.int (aF x.1),.int x.2]:=av rfl (ax (aH [.int (aF x.1),.int x.2] (aE (d:=.int (aF x.1)) (b:=false) (aH [x.1] (by simp[ha]) hd) rfl) (by simp[sizeLine])));show(fA fj _ _).map _=_;rw[aH [.tup ab,.int x.2] (by simp[dB,h0]) hr];rfl
 have hk:de ((cY ab aa).map λx=>D.tup [.int (aF x.1),.int x.2])=some ((cY ab aa).map kA):=gZ _ λx _=>rfl;have hz:((cY ab aa).map kA).zip ((cY ab aa).map λx=>D.int x.2)=(cY ab aa).map λx=>(kA x,D.int x.2):=by rw[zip_map']
 have Mz:((cY ab aa).map (·.2)).Nodup:=List.Nodup.sublist (List.Sublist.map _ (filter_sublist)) (dj ab aa);have O:((cY ab aa).map kA).length<64/\dc ((cY ab aa).map kA)=true/\dr ((cY ab aa).map kA)=true/\(((cY ab aa).map kA).map c7).Nodup:=by
  refine⟨by rw[vI];omega,wx _,?_,?_⟩
  ·unfold dr;rw[or_eq_true];left;simp[all_eq_true,kA]
  ·rw[uP];exact List.Pairwise.map _ (λa b h e=>h (Fp e)) (pairwise_map.mp Mz)
 refine av rfl (cz U My (ax ?_));show(qm (ah 2) _ _)=_;unfold qm;show((some (D.lst ((cY ab aa).map λx=>D.int x.2),false)).bind _)=_;simp only[vJ];rw[hm _ rfl];simp only[vJ];rw[hk];simp only[vJ];rw[if_pos O];unfold jm;rw[hz];have key:((Ol ab aa).map λx=>(kA x,D.int x.2))=eP (λp:List At×D=>c7 p.1) ((cY ab aa).map λx=>(kA x,D.int x.2)):=by
  refine ib _ (λx hx y hy e=>?_) ((aR _ _).map _) ?_
  ·obtain⟨a,ha,rfl⟩:=vO hx;obtain⟨b,hb,rfl⟩:=vO hy;rw[Iu (G a ha).1 (G b hb).1 (Fp e)]
  ·exact pairwise_map.mpr (eZ _ _)
 rw[←key,uP];rfl
structure Cl where
 o:Str
 p:Str
 s:Int
 u:Option Int
 n:Nat
noncomputable def uD:OI->D
 |none=>.non
 |some x=>.int x
def aT (c:Cl):D:=.tup [.str c.o,.str c.p,.int c.s,uD c.u,.int c.n]
def BH (u:OI):bg (uD u)=true:=by cases u<;>rfl
def mK (c:Cl):bg (aT c)=true:=by simp[aT,BH]
def jv (cs:List Cl):b8 (cs.map aT)=true:=bW λd hd=>by obtain⟨c,_,rfl⟩:=vO hd;exact mK c
noncomputable def iw (c:Cl)(day:Int):Bool:=decide (c.s<=day) && (match c.u with|none=>true|some x=>decide (day<x))
def U6 (d e f g:D)(r:LD):nZ (d::e::f::g::r) 3=some g:=by have:=kn (xs:=d::e::f::g::r) (j:=3) (by simp);simpa using this
def U7 (d e f g h:D)(r:LD):nZ (d::e::f::g::h::r) 4=some h:=by have:=kn (xs:=d::e::f::g::h::r) (j:=4) (by simp);simpa using this
def Om (c:Cl):bK (aT c) (.int 0)=sS c.o:=by simp[aT,Gr]
def ME (c:Cl):bK (aT c) (.int 1)=sS c.p:=by simp[aT,Gs]
def P7 (c:Cl):bK (aT c) (.int 2)=sI c.s:=by simp[aT,S3]
def U8 (c:Cl):bK (aT c) (.int 3)=some (uD c.u,false):=by simp[aT,U6]
def P8 (c:Cl):bK (aT c) (.int 4)=sI c.n:=by simp[aT,U7]
def c6 (ds:LD)(h:ds.length<=100):be ds=sT ds:=if_pos (cX (by omega))
def ga (ds:LD)(h:ds.length<=100):bv ds=lT ds:=if_pos (cX (by omega))
def BI (s day:Int)(u:OI):jr [.int day,.tup [.int s,uD u]]=sO (decide (s<=day) && (match u with|none=>true|some x=>decide (day<x))):=by
 refine av rfl (ax (dJ (b1:=false) (by simp[Gr]) λ_=>?_));cases u with
 |none=>exact kq (p:=true) (q:=true) (b1:=false) (by simp[Gs,uD]) (by simp)
 |some x=>exact kq (p:=false) (q:=decide (day<x)) (b1:=false) (by simp[Gs,uD]) λ_=>by simp[Gs,uD]
def rm (c:Cl)(day:Int):cM [aT c,.int day]=sO (iw c day) :=
 av rfl (ax (aH [.int day,.tup [.int c.s,uD c.u]] (bS rfl (bS (aH [.int c.s,uD c.u] (aE (bw (aT c) (.int 2) rfl rfl (P7 c)) (aE (bw (aT c) (.int 3) rfl rfl (U8 c)) rfl)) (c6 _ (by simp))) rfl)) (BI c.s day c.u)))
def yI (c:Cl):di [aT c]=sT [.int c.s,.int c.n] :=
 av rfl (ax (aH [.int c.s,.int c.n] (aE (bw (aT c) (.int 2) rfl rfl (P7 c)) (aE (bw (aT c) (.int 4) rfl rfl (P8 c)) rfl)) (c6 _ (by simp))))
def wz (c:Cl):g7 [aT c]=sT [.str c.o,.int c.s,.int c.n] :=
 av rfl (ax (aH [.str c.o,.int c.s,.int c.n] (aE (bw (aT c) (.int 0) rfl rfl (Om c)) (aE (bw (aT c) (.int 2) rfl rfl (P7 c)) (aE (bw (aT c) (.int 4) rfl rfl (P8 c)) rfl))) (c6 _ (by simp))))
noncomputable def kS (c:Cl):List At:=[.i c.s,.i c.n]
def mL:Cl->List Cl->Cl
 |b,[]=>b
 |b,x::r=>if bo (kS x) (kS b)=some true then mL x r else mL b r
def sE:Cl->List Cl->Cl
 |b,[]=>b
 |b,x::r=>if bo (kS b) (kS x)=some true then sE x r else sE b r
theorem ro:∀(r:List Cl)(b:Cl),ln (kS b,aT b) (r.map λx=>(kS x,aT x))=aT (mL b r)
 |[],b=>rfl
 |x::r,b=>by
  rw[uY,ln,mL];split
  ·exact ro r x
  ·exact ro r b
theorem rq:∀(r:List Cl)(b:Cl),mu (kS b,aT b) (r.map λx=>(kS x,aT x))=aT (sE b r)
 |[],b=>rfl
 |x::r,b=>by
  rw[uY,mu,sE];split
  ·exact rq r x
  ·exact rq r b
def BJ (cs:List Cl):dc (cs.map kS)=true:=by
 unfold dc;simp[all_eq_true,kS,LR]
def rz (ρ:DL.Env)(cs:List Cl):jl (sA di ρ) (cs.map aT)=some (cs.map λc=>.tup [.int c.s,.int c.n]):=iu cs λc _=>by
 show(di [aT c]).map _=_;rw[yI];rfl
def oE (cs:List Cl):de (cs.map λc=>D.tup [.int c.s,.int c.n])=some (cs.map kS):=gZ cs λc _=>rfl
def Fq (e:f ρ=some (.lst ((b::r).map aT),bb)):tO f (sA di) ρ=some (aT (mL b r),false):=by
 unfold tO L3;rw[e,vJ];dsimp only;rw[rz,vJ,oE,vJ,if_pos (BJ _)];have:((b::r).map kS).zip ((b::r).map aT)=(kS b,aT b)::r.map λx=>(kS x,aT x):=by rw[zip_map'];rfl
 rw[this];show some (ln _ _,false)=_;rw[ro]
def LW (e:f ρ=some (.lst ((b::r).map aT),bb)):tN f (sA di) ρ=some (aT (sE b r),false):=by
 unfold tN L3;rw[e,vJ];dsimp only;rw[rz,vJ,oE,vJ,if_pos (BJ _)];have:((b::r).map kS).zip ((b::r).map aT)=(kS b,aT b)::r.map λx=>(kS x,aT x):=by rw[zip_map'];rfl
 rw[this];show some (mu _ _,false)=_;rw[rq]
def iz (rl:Str)(b:Cl)(r:List Cl):Cl:=if rl = "last" then sE b r else mL b r
def Fs (rl:Str)(b:Cl)(r:List Cl):lK [.lst ((b::r).map aT),.str rl]=sS (iz rl b r).p:=by
 unfold iz;by_cases h:rl = "last"
 ·rw[if_pos h];exact av rfl (bE (bQ (a:=rl) (bb:=false) rfl (decide_eq_true h)) (ax (bw (aT (sE b r)) (.int 1) (LW (bb:=false) rfl) rfl (ME _))))
 ·rw[if_neg h];exact av rfl (a9 (bQ (a:=rl) (bb:=false) rfl (decide_eq_false h)) (ax (bw (aT (mL b r)) (.int 1) (Fq (bb:=false) rfl) rfl (ME _))))
theorem r0:∀(r:List Cl)(b:Cl),mL b r∈b::r
 |[],b=>by simp[mL]
 |x::r,b=>by
  rw[mL];split
  ·exact mZ _ (r0 r x)
  ·rcases vP (r0 r b)with h|h
   ·rw[h];exact mX
   ·exact mZ _ (mZ _ h)
theorem r6:∀(r:List Cl)(b:Cl),sE b r∈b::r
 |[],b=>by simp[sE]
 |x::r,b=>by
  rw[sE];split
  ·exact mZ _ (r6 r x)
  ·rcases vP (r6 r b)with h|h
   ·rw[h];exact mX
   ·exact mZ _ (mZ _ h)
def Dn (rl:Str)(b:Cl)(r:List Cl):iz rl b r∈b::r:=by
 unfold iz;split
 ·exact r6 r b
 ·exact r0 r b
noncomputable def MF (cs:List Cl)(o:Str)(day:Int):List Cl:=cs.filter λc=>decide (c.o=o) && iw c day
def lO (cs:List Cl):LS:=jM (fy (cs.map (·.p)))
def Oo:List Cl->Nat
 |[]=>0
 |b::r=>(mL b r).n
def oF (rl:Str):List Cl->D
 |[]=>.tup [.str "none"]
 |b::r=>if 1<(lO (b::r)).length/\rl = "open" then .tup [.str "parted",.lst ((lO (b::r)).map .str)]
  else .tup [.str "one",.str (iz rl b r).p,.int (Oo ((b::r).filter λc=>decide (c.p=(iz rl b r).p)))]
def jN (cs:List Cl)(o rl:Str)(day:Int):D:=oF rl (MF cs o day)
def Iv {z:Str}:fy (z::zs)≠[]:=by
 have:∀(G:LS)(g:LS),z∈g->z∈G.foldl gR g:=λG=>by
  induction G with
  |nil=>intro g h;exact h
  |cons a l M=>intro g h;exact M _ (xK.mpr (.inl h))
 have h:=this zs (gR [] z) (xK.mpr (.inr rfl));intro e;unfold fy at e;rw[foldl_cons]at e;rw[e]at h;cases h
def kG:aq [row h ("root" : Str) [.str o,.int m,.int f,.str rl],.str "office"]=sS o:=bx (i:=0) da rfl
def Dp:aq [row h ("root" : Str) [.str o,.int m,.int f,.str rl],.str "rule"]=sS rl:=bx (i:=3) da rfl
def rA (zs:LS):gy (zs.map .str)=some zs:=by
 induction zs with
 |nil=>rfl
 |cons z zs g=>simp[g]
def mM (cs:List Cl)(hl:cs.length<=60)(day:Int):dN [.lst (cs.map aT),row h ("root" : Str) [.str o,.int m,.int f,.str rl],.int day]=some (jN cs o rl day,false):=by
 let rt:D:=row h ("root" : Str) [.str o,.int m,.int f,.str rl];have h1:=gz (fi:=bV (ah 0)) (nT:=1) (cap:=[2,1]) (tg:=cB 0) (c:=dq (bp (f2 eD (dZ 0 0) (fA aq (fV 2 (ag (fS "office") aj))))) (bp (fA cM (fV 0 (fV 1 aj))))) (fe:=ah 0)
  (ρ:=[sL (cs.map aT),some (rt,false),sI day,none,none,none,none]) cs aT (λc=>decide (c.o=o) && iw c day) aT (by simp) (by omega) λc hc=>by
   refine⟨_,rfl,dz (cP (bw (.str c.o) (.str o) (bw (aT c) (.int 0) (by simp[dB]) rfl (Om c)) (aH [rt,.str "office"] (by simp[dB]) kG) (by simp))) λ_=>cP (aH [aT c,.int day] (by simp[dB]) (rm c day)),λ_=>⟨false,by simp[dB]⟩⟩
 have O:bD (bV (ah 0)) 1 [2,1] (cB 0) (dq (bp (f2 eD (dZ 0 0) (fA aq (fV 2 (ag (fS "office") aj))))) (bp (fA cM (fV 0 (fV 1 aj))))) (ah 0) [sL (cs.map aT),some (rt,false),sI day,none,none,none,none]=lT ((MF cs o day).map aT):=h1;have U:(MF cs o day).length<=60:=vR (vM _ _) hl;unfold jN;generalize MF cs o day=al at O U;have h2:∀ρ:DL.Env,ρ[3]? = some (lT (al.map aT))->f1 ia (bD (bV (ah 3)) 1 [] (cB 0) fE (dZ 0 1)) ρ=lT ((lO al).map .str):=λρ h3=>by
  have hc:=lr (fi:=bV (ah 3)) (nT:=1) (cap:=[]) (tg:=cB 0) (fe:=dZ 0 1) (ρ:=ρ) al aT (λc=>.str c.p) (by simp[h3]) (by omega) λc hc=>⟨_,rfl,false,bw (aT c) (.int 1) (by simp[dB]) rfl (ME c)⟩;have e2:al.map (λc=>D.str c.p)=(al.map (·.p)).map .str:=by rw[uP];rfl
  rw[e2]at hc;unfold f1;rw[hc,vJ];show(gy ((al.map (·.p)).map .str)).bind _=_;rw[rA,vJ,if_pos (by rw[vI];omega)];rfl
 have D7:b8 ((lO al).map D.str)=true:=dR _;refine av rfl (cz (ds:=al.map aT) O (jv al) (cz (ds:=(lO al).map .str) (h2 _ rfl) D7 ?_));cases al with
 |nil=>exact bE (cP (by simp[lO,fy,jM])) (ax (aH [.str "none"] rfl (c6 _ (by simp))))
 |cons b r=>
  have Gw:(lO (b::r)).length≠0:=by
   unfold lO;rw[(eY _).length_eq];intro e;exact Iv (List.length_eq_zero_iff.mp e)
  refine a9 (cP (by simp[Gw])) ?_;have g:∀ρ:DL.Env,ρ[1]? = some (some (rt,false))->fA aq (fV 1 (ag (fS "rule") aj)) ρ=sS rl:=λρ q1=>aH [rt,.str "rule"] (by simp[q1]) Dp;by_cases hp:1<(lO (b::r)).length/\rl = "open"
  ·have:oF rl (b::r)=.tup [.str "parted",.lst ((lO (b::r)).map .str)]:=by rw[oF,if_pos hp]
   rw[this];exact bE (dz (p:=true) (q:=true) (cP (by simp;omega)) λ_=>bQ (bb:=false) (g _ rfl) (decide_eq_true hp.2)) (ax (aH [.str "parted",.lst ((lO (b::r)).map .str)] (by simp) (c6 _ (by simp))))
  ·have:oF rl (b::r)=.tup [.str "one",.str (iz rl b r).p,.int (Oo ((b::r).filter λc=>decide (c.p=(iz rl b r).p)))]:=by rw[oF,if_neg hp]
   rw[this];have G:dq (bp (f2 Gm (fA fx (fV 4 aj)) (fI 1))) (bp (f2 eD (fA aq (fV 1 (ag (fS "rule") aj))) (fS "open"))) [sL (cs.map aT),some (rt,false),sI day,lT ((b::r).map aT),lT ((lO (b::r)).map .str),none,none]=some false:=by
    by_cases h5:1<(lO (b::r)).length
    ·exact dz (p:=true) (q:=false) (cP (by simp;omega)) λ_=>bQ (bb:=false) (g _ rfl) (decide_eq_false λe=>hp ⟨h5,e⟩)
    ·exact dz (p:=false) (q:=false) (cP (by simp;omega)) (by simp)
   have T:=Dn rl b r;let ch:=iz rl b r;have h6:=gz (fi:=bV (ah 3)) (nT:=1) (cap:=[5]) (tg:=cB 0) (c:=bp (f2 eD (dZ 0 1) (ah 1))) (fe:=ah 0) (ρ:=[sL (cs.map aT),some (rt,false),sI day,lT ((b::r).map aT),lT ((lO (b::r)).map .str),sS ch.p,none]) (b::r) aT (λc=>decide (c.p=ch.p)) aT (by simp) (by omega) λc hc=>⟨_,rfl,cP (bw (.str c.p) (.str ch.p) (bw (aT c) (.int 1) (by simp[dB]) rfl (ME c)) (by simp[dB]) (by simp)),λ_=>⟨false,by simp[dB]⟩⟩;obtain⟨b2,M,hf⟩:∃b2 M,(b::r).filter (λc=>decide (c.p=ch.p))=b2::M:=by
    cases hq:(b::r).filter (λc=>decide (c.p=ch.p)) with
    |nil=>
     have:=List.filter_eq_nil_iff.mp hq _ T;simp[ch]at this
    |cons b2 M=>exact⟨b2,M,rfl⟩
   rw[hf]at h6 ⊢;refine a9 G (fB (.str ch.p) (aH [.lst ((b::r).map aT),.str rl] (bS (by simp) (aE (g _ rfl) rfl)) (Fs rl b r)) rfl (fB (aT (mL b2 M)) (Fq (bb:=true) h6) (mK _) (ax (aH [.str "one",.str ch.p,.int (mL b2 M).n] (bS rfl (bS rfl (aE (bw (aT (mL b2 M)) (.int 4) rfl rfl (P8 _)) rfl))) (c6 _ (by simp))))))
def JF:D->D
 |.tup ds=>.tup (pN ds none (some 2))
 |d=>d
def i6 (cs:List Cl)(o rl p:Str)(day:Int):Bool:=cI (JF (jN cs o rl day)) (.tup [.str "one",.str p])
def Aq (n:Nat)(zs:LS):(zs.map D.str).all (aN n)=true:=by
 induction zs with
 |nil=>rfl
 |cons a l g=>simp
def Dq (rl:Str)(g:List Cl):∃ds,oF rl g=.tup ds/\ds.all (aN 5)=true:=by
 cases g with
 |nil=>exact⟨_,rfl,by simp⟩
 |cons b r=>
  rw[oF];split
  ·exact⟨_,rfl,by simp only[all_cons,all_nil,aN,Bool.and_true,Bool.true_and];exact Aq _ _⟩
  ·exact⟨_,rfl,by simp⟩
def Ft (h:ds.all (aN 5)=true):(pN ds lo hi).all (aN 5)=true:=by
 rw[all_eq_true]at h ⊢;exact λd hd=>h d (List.mem_of_mem_drop (List.mem_of_mem_take hd))
def ui (h:ds.all (aN 5)=true):aN 40 (.tup ds)=true:=jI 6 40 _ (by decide) (by simpa only[aN]using h)
def w4 (cs:List Cl)(hl:cs.length<=60)(p:Str)(day:Int):cE [.lst (cs.map aT),row h ("root" : Str) [.str o,.int m,.int f,.str rl],.str p,.int day]=sO (i6 cs o rl p day):=by
 have hb:=mM cs hl (h:=h) (o:=o) (rl:=rl) (m:=m) (f:=f) day;obtain⟨ds,e,hd⟩:=Dq rl (MF cs o day);have g:jN cs o rl day=.tup ds:=e;refine av rfl (ax (bw (JF (jN cs o rl day)) (.tup [.str "one",.str p]) ?_ (by simp[sizeLine]) ?_))
 ·have hc:=B1 (F:=dN) (fa:=fV 0 (fV 1 (fV 3 aj))) (ρ:=[sL (cs.map aT),some (row h ("root" : Str) [.str o,.int m,.int f,.str rl],false),sS p,sI day]) (ds:=[.lst (cs.map aT),row h ("root" : Str) [.str o,.int m,.int f,.str rl],.int day]) rfl hb;rw[g]at hc ⊢;show wS (fA dN (fV 0 (fV 1 (fV 3 aj)))) fG (fu (fI 2)) _=_;unfold wS;rw[show(List.map (λd=>some (d,false)) [D.lst (cs.map aT),row h ("root" : Str) [.str o,.int m,.int f,.str rl],.str p,.int day]++List.replicate 0 none:DL.Env)=[sL (cs.map aT),some (row h ("root" : Str) [.str o,.int m,.int f,.str rl],false),sS p,sI day]from rfl,hc];rfl
 ·unfold i6 eD;rw[if_pos];rw[g];exact⟨ui (Ft hd),ui (by simp)⟩
noncomputable def ay (j:Nat):D->Str
 |.tup [_,.tup (_::aA)]=>match aA[j]? with
  |some (.str s)=>s
  |_=>("" : Str)
 |_=>("" : Str)
noncomputable def gO (j:Nat):D->Int
 |.tup [_,.tup (_::aA)]=>match aA[j]? with
  |some (.int s)=>s
  |_=>0
 |_=>0
def Cd.root_of (h:Cd ("root" : Str) r):∃o rl,∃m f:Int,r=[.str o,.int m,.int f,.str rl]:=by
 generalize hk:("root" : Str)=k at h;cases h with
 |root o rl m f=>exact⟨o,rl,m,f,rfl⟩
 |named=>exact cN hk
 |chosen=>exact cN hk
 |heir=>exact cN hk
 |three _ hh=>rcases hh with rfl|rfl|rfl<;>exact cN hk
 |other _ hh=>rcases hh with rfl|rfl|rfl|rfl|rfl<;>exact cN hk
def uj {κ α:Type}[DecidableEq κ]{ks:List κ}{k:κ}{x y:α}:∀ {xs:List α},y∈cW ks xs k x->y=x∨y∈xs:=by
 intro xs h;unfold cW at h;split at h
 ·rename_i g;clear g;induction ks generalizing xs with
  |nil=>simp at h
  |cons a ks G=>
   cases xs with
   |nil=>simp at h
   |cons b xs=>
    rw[zipWith_cons_cons,mem_cons]at h;rcases h with h|h
    ·split at h
     ·exact .inl h
     ·exact .inr (by rw[h];exact mX)
    ·rcases G h with h|h
     ·exact .inl h
     ·exact .inr (mZ _ h)
 ·rcases mem_append.mp h with h|h
  ·exact .inr h
  ·exact .inl (uT h)
theorem ul:∀(l:List (dD×D))(a:LK×LD)(y:D),y∈(l.foldl qu a).2->y∈a.2∨∃p∈l,p.2=y
 |[],a,y,h=>.inl h
 |p::l,a,y,h=>by
  rw[foldl_cons]at h;rcases ul l _ y h with h|⟨q,hq,e⟩
  ·rcases uj (show y∈cW a.1 a.2 p.1 p.2 from h)with h|h
   ·exact .inr ⟨p,mX,h.symm⟩
   ·exact .inl h
  ·exact .inr ⟨q,mZ _ hq,e⟩
theorem um {α:Type}(f:α->Str)(g:α->D):∀(l:List α),iS (l.map λx=>D.tup [.str (f x),g x])=some (l.map λx=>(.inr (f x),g x))
 |[]=>rfl
 |x::l=>by
  rw[uY,iS,um f g l];rfl
theorem rB {κ:Type}[DecidableEq κ]:∀ {ks:List κ}{vs:LD}{k:κ}{v:D},cm ks vs k=some v->v∈vs
 |k'::ks,d::ds,k,v,h=>by
  unfold cm at h;split at h
  ·cases h;exact mX
  ·exact mZ _ (rB h)
 |[],_,_,_,h=>by simp[cm]at h
 |_::_,[],_,_,h=>by simp[cm]at h
noncomputable def mN (KL:List (D×Nat)):List (dD×D):=(KL.filter λx=>bf x.1).map λx=>(.inr (ay 0 x.1),x.1)
def BK (KL:List (D×Nat))(o:Str):Option D:=cm (bT (mN KL)).1 (bT (mN KL)).2 (.inr o)
def rC (g:wy r)(h:bf r=true):∃a o rl,∃m f:Int,r=row a ("root" : Str) [.str o,.int m,.int f,.str rl]:=by
 obtain⟨a,k,aA,rfl,d⟩:=g;have hk:k = "root":=of_decide_eq_true h;subst hk;obtain⟨o,rl,m,f,rfl⟩:=d.root_of;exact⟨a,o,rl,m,f,rfl⟩
def dw (g:gA ab)(hx:x∈ak ab aa):nZ ab (x.2:Int)=some x.1/\wy x.1:=⟨cy (b7 hx),g.2 _ (vL (b7 hx))⟩
def yJ (g:gA ab)(h:BK (ak ab aa) o=some v):∃a G rl,∃m f:Int,v=row a ("root" : Str) [.str G,.int m,.int f,.str rl]:=by
 have hv:=rB h;rcases ul _ ([],[]) v hv with h|⟨p,hp,e⟩
 ·cases h
 ·obtain⟨x,hx,rfl⟩:=vO hp;obtain⟨h1,h2⟩:=vN hx;rw[←e];exact rC (dw g h1).2 h2
def rE (g:gA ab)(aa:Int):gl [.tup ab,.int aa]=sF (.dk (bT (mN (ak ab aa))).1 (bT (mN (ak ab aa))).2):=by
 have hl:=cu ab aa;have M:=g.1;have h1:=lr (fi:=bV (fA cA (fV 0 (fV 1 aj)))) (nT:=1) (cap:=[0]) (tg:=cB 0) (fe:=f2 bK (ah 1) (ah 0)) (ρ:=[sT ab,sI aa,none]) (ak ab aa) (λx=>.int x.2) Prod.fst
  (by
   show(fA cA (fV 0 (fV 1 aj)) _).bind _=_;rw[aH [.tup ab,.int aa] rfl (kE ab g.rp g.le aa)];rfl) (by omega) λx hx=>by
   have ha:=(dw g hx).1;exact⟨_,rfl,false,by simp[dB,ha]⟩
 have hn:b8 ((ak ab aa).map Prod.fst)=true:=bW λd hd=>by
  obtain⟨x,hx,rfl⟩:=vO hd;exact(dw g hx).2.rp.flat
 have h2:=gz (fi:=bV (ah 2)) (nT:=1) (cap:=[]) (tg:=cB 0) (c:=bp (f2 eD (fA aK (fV 0 aj)) (fS "root"))) (fe:=fA be (ag (fA aq (fV 0 (ag (fS "office") aj))) (fV 0 aj)))
  (ρ:=[sT ab,sI aa,lT ((ak ab aa).map Prod.fst)]) (ak ab aa) Prod.fst (λx=>bf x.1) (λx=>.tup [.str (ay 0 x.1),x.1]) (by simp) (by omega) λx hx=>by
   have G:=(dw g hx).2;refine⟨_,rfl,bQ (a:=kindOf x.1) (bb:=false) (aH [x.1] rfl (iY G)) rfl,λhp=>⟨false,?_⟩⟩;obtain⟨a,o,rl,m,f,e⟩:=rC G hp;refine aH [.str (ay 0 x.1),x.1] (bS (aH [x.1,.str "office"] rfl ?_) rfl) (c6 _ (by simp));rw[e];exact kG
 refine av rfl (cz (ds:=(ak ab aa).map Prod.fst) h1 hn (ax (aH [.lst (((ak ab aa).filter λx:D×Nat=>bf x.1).map λx:D×Nat=>D.tup [.str (ay 0 x.1),x.1])] (aE h2 rfl) ?_)));rw[jC,um (λx:D×Nat=>ay 0 x.1) Prod.fst];rfl
def oS:D×Nat->List (D×Nat)->D×Nat
 |b,[]=>b
 |b,x::r=>if bo (kA x) (kA b)=some true then oS x r else oS b r
theorem w6:∀(r:List (D×Nat))(b:D×Nat),ln (kA b,.int b.2) (r.map λx=>(kA x,D.int x.2))=.int (oS b r).2
 |[],b=>rfl
 |x::r,b=>by
  rw[uY,ln,oS];split
  ·exact w6 r x
  ·exact w6 r b
def i7 (KL:List (D×Nat))(p:Str)(day:Int)(i:Nat):Bool:=match KL.filter (λx=>told dU p day x.1) with
 |[]=>false
 |b::r=>decide ((oS b r).2=i)
def Fu (g:gA ab)(aa:Int)(hx:x∈ak ab aa)(e:x.1=row a ("death" : Str) [.int d,.str p]):fX [.tup ab,.int aa,.int x.2]=sO (i7 (ak ab aa) p d x.2):=by
 have ha:=(dw g hx).1;have gx:=(dw g hx).2;have ht:=wv ab g.rp g.le aa dU jJ p d;have M:aq [x.1,.str "person"]=sS p:=by rw[e];exact bx (i:=1) da rfl
 have O:aP [x.1]=sI d:=by rw[e];exact ju (.inl (by decide +kernel)) rfl
 have G:x∈oR ab aa dU p d:=mem_filter.mpr ⟨hx,by rw[e];simp[told,row,dU,uh]⟩;have U:i7 (ak ab aa) p d x.2=match oR ab aa dU p d with|[]=>false|b::r=>decide ((oS b r).2=x.2):=rfl
 have key:∀y∈oR ab aa dU p d,∃h k dd,ab[y.2]? = some (row h k [.int dd,.str p])/\y.1=row h k [.int dd,.str p]/\cR k=true:=λy hy=>by
  obtain⟨T,Wt⟩:=BF hy;obtain⟨h,k,dd,e2,h3,_⟩:=rh jJ (g.rp _ (vL T)) Wt;exact⟨h,k,dd,by rw[T,e2],e2,h3⟩
 rw[U];cases hs:oR ab aa dU p d with
 |nil=>rw[hs]at G;cases G
 |cons b r=>
  rw[hs]at ht key;have hm:∀ρ:DL.Env,ρ[0]? = some (sT ab)->jl (qk [0] (fA fj (fV 1 (fV 0 aj))) ρ) ((b::r).map λy=>.int y.2)=some ((b::r).map λy=>.tup [.int (aF y.1),.int y.2]):=λρ h0=>
   iu (b::r) λy hy=>by
    obtain⟨h,k,dd,T,e2,h3⟩:=key y hy;show(fA fj _ _).map _=_;rw[aH [.tup ab,.int y.2] (by simp[dB,h0]) (BG T h3),e2];rfl
  have hk:de ((b::r).map λy=>D.tup [.int (aF y.1),.int y.2])=some ((b::r).map kA):=gZ _ λy _=>rfl;have hz:((b::r).map kA).zip ((b::r).map λy=>D.int y.2)=(kA b,D.int b.2)::r.map λy=>(kA y,D.int y.2):=by rw[zip_map'];rfl
  have My:b8 ((b::r).map λy=>D.int y.2)=true:=bW λd hd=>by obtain⟨y,_,rfl⟩:=vO hd;rfl
  refine av rfl (fB x.1 (by simp[ha]) gx.rp.flat (cz (ds:=(b::r).map λy=>.int y.2) (aH [.tup ab,.int aa,.tup (dU.map .str),.str p,.int d] (bS rfl (bS rfl (bS (aH [.str "death"] rfl (c6 _ (by simp))) (aE (aH [x.1,.str "person"] rfl M) (aE (aH [x.1] rfl O) rfl))))) ht) My (ax (bw (.int (oS b r).2) (.int x.2) ?_ rfl ?_))))
  ·unfold tO L3;show((some (D.lst ((b::r).map λy=>D.int y.2),false)).bind _)=_;rw[vJ];dsimp only;rw[hm _ rfl,vJ,hk,vJ,if_pos (wx _),hz];show some (ln _ _,false)=_;rw[w6]
  ·rw[B3];congr 3;apply decide_eq_decide.mpr;omega
abbrev KL:=List (D×Nat)
noncomputable def rF (K:KL)(p:Str)(day:Int):Bool:=(K.filter λx=>told dU p day x.1).isEmpty
def Op (K:KL)(p:Str)(day:Int):Bool:=match JD (K.filter λx=>told mI p day x.1) with
 |none=>true
 |some x=>decide (kindOf x.1 = "found")
def wA (K:KL)(r:D):Bool:=dQ (kindOf r) && (rF K (cQ r) (aF r) && Op K (cQ r) (aF r))
def Fv (r:D):Str:=if kindOf r = "named" then ay 1 r else ay 2 r
noncomputable def wB:LS:=[("named" : Str),"chosen","heir"]
def cF (K:KL)(g:List Cl)(x:D×Nat):Bool :=
 if kindOf x.1 = "death" then i7 K (ay 1 x.1) (aF x.1) x.2
 else if kindOf x.1∈wB then match BK K (Fv x.1) with
  |none=>false
  |some v=>if kindOf x.1 = "named" then true else wA K x.1 && i6 g (ay 0 v) (ay 3 v) (ay 1 x.1) (aF x.1)
 else false
def Iw (ab:LD)(aa:Int)(p:Str)(day:Int):nO ab aa p day=rF (ak ab aa) p day:=rfl
def Ix (h:ba r<=aa):gJ ab aa r=wA (ak ab aa) r:=by
 unfold gJ wA;rw[decide_eq_true h,Bool.true_and];rfl
def Dr (g:gA ab)(aa:Int)(G:List Cl)(Pd:G.length<=60)(hx:x∈ak ab aa)(O:bf x.1=false):mB [.tup ab,.int aa,.lst (G.map aT),.int x.2]=sO (cF (ak ab aa) G x):=by
 obtain⟨ha,U⟩:=dw g hx;have hh:ba x.1<=aa:=of_decide_eq_true (vN hx).2;have hf:bg x.1=true:=U.rp.flat;have hw:∀ρ:DL.Env,ρ[4]? = some (some (x.1,false))->fA aK (fV 4 aj) ρ=sS (kindOf x.1):=λρ h4=>aH [x.1] (by simp[h4]) (iY U);have M:∀ρ:DL.Env,ρ[4]? = some (some (x.1,false))->bp (f2 eM (fA aK (fV 4 aj)) (fA be (ag (fS "named") (ag (fS "chosen") (ag (fS "heir") aj))))) ρ=some (!decide (kindOf x.1∈wB)):=λρ h4=>
  cP (bw (.str (kindOf x.1)) (.tup (wB.map .str)) (hw ρ h4) (by simp[sizeLine,wB]) (oC _ _))
 by_cases hd:kindOf x.1 = "death"
 ·obtain⟨a,k,aA,e,d⟩:=U;have hk:k = "death":=by rw[e]at hd;exact hd
  subst hk;obtain⟨dd,p,rfl⟩:=d.deed.three (by decide +kernel);have hc:cF (ak ab aa) G x=i7 (ak ab aa) p dd x.2:=by
   unfold cF;rw[if_pos hd,e];rfl
  rw[hc];exact av rfl (fB x.1 (by simp[ha]) hf (bE (bQ (bb:=false) (hw _ rfl) (decide_eq_true hd)) (ax (aH [.tup ab,.int aa,.int x.2] rfl (Fu g aa hx e)))))
 ·by_cases h3:kindOf x.1∈wB
  ·have M0:aq [x.1,.str "office"]=sS (Fv x.1):=by
    obtain⟨a,k,aA,e,d⟩:=U;rw[e]at h3 hd O ⊢;replace h3:k∈wB:=h3;clear hd O;cases d with
    |root=>exact cN h3
    |named d o p=>exact bx (i:=1) da rfl
    |chosen d b o p s=>exact bx (i:=2) da rfl
    |heir d b o p=>exact bx (i:=2) da rfl
    |three _ hk=>rcases hk with rfl|rfl|rfl<;>exact cN h3
    |other _ hk=>rcases hk with rfl|rfl|rfl|rfl|rfl<;>exact cN h3
   have e5:∀ρ:DL.Env,ρ[0]? = some (sT ab)->ρ[1]? = some (sI aa)->ρ[4]? = some (some (x.1,false))->f2 EO (fA gl (fV 0 (fV 1 aj))) (fA aq (fV 4 (ag (fS "office") aj))) ρ=some ((BK (ak ab aa) (Fv x.1)).getD .non,false):=λρ q0 q1 q4=>
    bw (.dk (bT (mN (ak ab aa))).1 (bT (mN (ak ab aa))).2) (.str (Fv x.1)) (aH [.tup ab,.int aa] (by simp[q0,q1]) (rE g aa)) (aH [x.1,.str "office"] (by simp[q4]) M0) rfl
   cases hr:BK (ak ab aa) (Fv x.1) with
   |none=>
    rw[hr]at e5;have hc:cF (ak ab aa) G x=false:=by unfold cF;rw[if_neg hd,if_pos h3,hr]
    rw[hc];exact av rfl (fB x.1 (by simp[ha]) hf (a9 (bQ (bb:=false) (hw _ rfl) (decide_eq_false hd)) (a9 (by rw[M _ rfl,decide_eq_true h3];rfl) (fB .non (e5 _ rfl rfl rfl) rfl (bE (cP (bw .non .non rfl rfl (by simp))) (ax rfl))))))
   |some v=>
    rw[hr]at e5;obtain⟨va,vo,X0,vm,vf,ev⟩:=yJ g hr;have TK:bg v=true:=by rw[ev];rfl
    have TL:DB v .non=sO false:=by rw[ev];simp[row]
    by_cases hn:kindOf x.1 = "named"
    ·have hc:cF (ak ab aa) G x=true:=by unfold cF;rw[if_neg hd,if_pos h3,hr];dsimp only;rw[if_pos hn]
     rw[hc];exact av rfl (fB x.1 (by simp[ha]) hf (a9 (bQ (bb:=false) (hw _ rfl) (decide_eq_false hd)) (a9 (by rw[M _ rfl,decide_eq_true h3];rfl) (fB v (e5 _ rfl rfl rfl) TK (a9 (cP (bw v .non rfl rfl TL)) (bE (bQ (bb:=false) (hw _ rfl) (decide_eq_true hn)) (ax rfl)))))))
    ·have hc:cF (ak ab aa) G x=(wA (ak ab aa) x.1 && i6 G (ay 0 v) (ay 3 v) (ay 1 x.1) (aF x.1)):=by unfold cF;rw[if_neg hd,if_pos h3,hr];dsimp only;rw[if_neg hn]
     have TM:aq [x.1,.str "by"]=sS (ay 1 x.1)/\aP [x.1]=sI (aF x.1):=by
      refine⟨?_,by rw[rj U];unfold sD;rw[O];rfl⟩;obtain⟨a,k,aA,e,d⟩:=U;rw[e]at h3 hn ⊢;replace h3:k∈wB:=h3;cases d with
      |root=>exact cN h3
      |named=>exact absurd rfl hn
      |chosen d b o p s=>exact bx (i:=1) da rfl
      |heir d b o p=>exact bx (i:=1) da rfl
      |three _ hk=>rcases hk with rfl|rfl|rfl<;>exact cN h3
      |other _ hk=>rcases hk with rfl|rfl|rfl|rfl|rfl<;>exact cN h3
     have hs:=mJ ab g.rp g.le aa (b7 hx);rw[Ix hh]at hs;have T:cE [.lst (G.map aT),v,.str (ay 1 x.1),.int (aF x.1)]=sO (i6 G (ay 0 v) (ay 3 v) (ay 1 x.1) (aF x.1)):=by
      rw[ev];exact w4 G Pd _ _
     rw[hc];refine av rfl (fB x.1 (by simp[ha]) hf (a9 (bQ (bb:=false) (hw _ rfl) (decide_eq_false hd)) (a9 (by rw[M _ rfl,decide_eq_true h3];rfl) (fB v (e5 _ rfl rfl rfl) TK (a9 (cP (bw v .non rfl rfl TL)) (a9 (bQ (bb:=false) (hw _ rfl) (decide_eq_false hn)) (ax ?_)))))));exact dJ (b1:=false) (aH [.tup ab,.int aa,.int x.2] rfl hs) λ_=>aH [.lst (G.map aT),v,.str (ay 1 x.1),.int (aF x.1)] (bS rfl (bS rfl (aE (aH [x.1,.str "by"] rfl TM.1) (aE (aH [x.1] rfl TM.2) rfl)))) T
  ·have hc:cF (ak ab aa) G x=false:=by unfold cF;rw[if_neg hd,if_neg h3]
   rw[hc];exact av rfl (fB x.1 (by simp[ha]) hf (a9 (bQ (bb:=false) (hw _ rfl) (decide_eq_false hd)) (bE (by rw[M _ rfl,decide_eq_false h3];rfl) (ax rfl))))
def gb (g:LS)(p:Str)(day:Int)(c:Cl):List Cl :=
 if(!decide (c.o∈g) || (!decide (c.p=p) || !(iw c day || decide (day<c.s))))=true then [c]else if c.s<day then [⟨c.o,p,c.s,some day,c.n⟩]else []
noncomputable def bX (G:List Cl)(g:LS)(p:Str)(day:Int):List Cl:=G.flatMap (gb g p day)
theorem gd (g:LS)(p:Str)(day:Int):∀G:List Cl,(bX G g p day).length<=G.length
 |[]=>vT _
 |c::G=>by
  unfold bX;rw[uO,uZ,vE];have h1:=gd g p day G;have h2:(gb g p day c).length<=1:=by
   unfold gb;split
   ·simp
   ·split<;>simp
  unfold bX at h1;omega
def Ar (k:Str)(g:LS):eM (.str k) (.lst (g.map .str))=sO (!decide (k∈g)):=by
 simp only[eM,hU,vJ,rf];rw[if_pos ⟨rfl,nM g⟩]
def yK (M:List Cl)(Pd:M.length<=60)(G:LS)(p:Str)(day:Int):p0 [.lst (M.map aT),.lst (G.map .str),.str p,.int day]=lT ((bX M G p day).map aT):=by
 obtain⟨ρ',e,v5,rfl⟩:=ig (tg:=cB 5) (g:=qM) (λj ρ=>∃v5:OB,ρ=[sL (M.map aT),sL (G.map .str),sS p,sI day,lT ((bX (M.take j) G p day).map aT),v5]) (M.map aT)
  [sL (M.map aT),sL (G.map .str),sS p,sI day,lT [],none] ⟨none,rfl⟩ (by
   rintro j d ρ hd ⟨v5,rfl⟩;rw[vA]at hd;obtain⟨c,hc,rfl⟩:=oY hd;have hj:j<M.length:=(vV hc).1;have et:bX (M.take (j+1)) G p day=bX (M.take j) G p day++gb G p day c:=by
    unfold bX;rw[take_add_one,hc,toList_some,List.flatMap_append,uO,flatMap_nil,uQ]
   have jP:(bX (M.take j) G p day).length<=60:=vR (gd G p day _) (by rw[length_take];omega);let T:DL.Env:=[sL (M.map aT),sL (G.map .str),sS p,sI day,lT ((bX (M.take j) G p day).map aT),some (aT c,false)];have q0:dZ 5 0 T=sS c.o:=bw (aT c) (.int 0) rfl rfl (Om c);have q1:dZ 5 1 T=sS c.p:=bw (aT c) (.int 1) rfl rfl (ME c);have q2:dZ 5 2 T=sI c.s:=bw (aT c) (.int 2) rfl rfl (P7 c);have q4:dZ 5 4 T=sI c.n:=bw (aT c) (.int 4) rfl rfl (P8 c);have O:jf (bp (f2 eM (dZ 5 0) (ah 1))) (jf (bp (f2 sd (dZ 5 1) (ah 2))) (fD (jf (bp (fA cM (fV 5 (fV 3 aj)))) (bp (f2 Gm (dZ 5 2) (ah 3)))))) T=some (!decide (c.o∈G) || (!decide (c.p=p) || !(iw c day || decide (day<c.s)))) :=
    cL (cP (bw (.str c.o) (.lst (G.map .str)) q0 rfl (Ar _ _))) λ_=>cL (cP (bw (.str c.p) (.str p) q1 rfl (by simp))) λ_=>cx (cL (cP (aH [aT c,.int day] rfl (rm c day))) λ_=>cP (bw (.int c.s) (.int day) q2 rfl (by simp)))
   by_cases h1:(!decide (c.o∈G) || (!decide (c.p=p) || !(iw c day || decide (day<c.s))))=true
   ·have U:gb G p day c=[c]:=by unfold gb;rw[if_pos h1]
    rw[h1]at O;refine⟨_,_,rfl,.inl (ko O (jD (ds:=(bX (M.take j) G p day).map aT) (d:=aT c) (b:=false) rfl rfl (mK c) (bH (by simp;omega)))),some (aT c,false),?_⟩;rw[et,U,uW];rfl
   ·rw[not_eq_true]at h1;rw[h1]at O;by_cases h2:c.s<day
    ·have U:gb G p day c=[⟨c.o,p,c.s,some day,c.n⟩]:=by unfold gb;rw[if_neg (by rw[h1];decide),if_pos h2]
     refine⟨_,_,rfl,.inl (lf O (ko (cP (bw (.int c.s) (.int day) q2 rfl (by simp[h2]))) (jD (ds:=(bX (M.take j) G p day).map aT) (d:=aT ⟨c.o,p,c.s,some day,c.n⟩) (b:=false) rfl (aH [.str c.o,.str p,.int c.s,.int day,.int c.n] (aE q0 (bS rfl (aE q2 (bS rfl (aE q4 rfl))))) (c6 _ (by simp))) (mK _) (bH (by simp;omega))))),some (aT c,false),?_⟩;rw[et,U,uW];rfl
    ·have U:gb G p day c=[]:=by unfold gb;rw[if_neg (by rw[h1];decide),if_neg h2]
     refine⟨_,_,rfl,.inl (lf O (lf (cP (bw (.int c.s) (.int day) q2 rfl (by simp;omega))) rfl)),some (aT c,false),?_⟩;rw[et,U,uQ];rfl)
 have e':gp (cB 5) qM (M.map aT) [sL (M.map aT),sL (G.map .str),sS p,sI day,lT [],none]=some (.nx [sL (M.map aT),sL (G.map .str),sS p,sI day,lT ((bX M G p day).map aT),v5]):=by
  rw[e];have:M.take (M.map aT).length=M:=by rw[vI,take_length]
  rw[this]
 exact av rfl (cz (ds:=[]) (by simp[sizeLine]) rfl (bZ (gS (ds:=M.map aT) (by simp[eO]) e') (m7 rfl)))
def JG (g:aq [r,.str "office"]=sS o)(hp:aq [r,.str "person"]=sS p)(s:Int)(n:Nat):g8 [r,.int s,.int n]=some (aT ⟨o,p,s,none,n⟩,false) :=
 av rfl (ax (aH [.str o,.str p,.int s,.non,.int n] (aE (aH [r,.str "office"] rfl g) (aE (aH [r,.str "person"] rfl hp) rfl)) (c6 _ (by simp))))
def Ds (g:List Cl)(G:g.length<=60)(n:Nat):ij [.lst (g.map aT),row a ("chosen" : Str) [.int d,.str b,.str o,.str p,.int s],.int n]=lT ((bX g [o] b s++[(⟨o,p,s,none,n⟩:Cl)]).map aT):=by
 let r:D:=row a ("chosen" : Str) [.int d,.str b,.str o,.str p,.int s];have M:aq [r,.str "office"]=sS o:=bx (i:=2) da rfl;have hp:aq [r,.str "person"]=sS p:=bx (i:=3) da rfl;have hb:aq [r,.str "by"]=sS b:=bx (i:=1) da rfl;have hs:aq [r,.str "since"]=sI s:=bx (i:=4) da rfl;have hl:=gd [o] b s g;refine av rfl (fB (.int s) (aH [r,.str "since"] rfl hs) rfl (cz (ds:=(bX g [o] b s).map aT) (aH [.lst (g.map aT),.lst ([o].map .str),.str b,.int s] (bS rfl (aE (b:=true) (aH [.str o] (aE (aH [r,.str "office"] rfl M) rfl) (ga _ (by simp))) (aE (aH [r,.str "by"] rfl hb) rfl))) (yK g G [o] b s)) (jv _) (ax ?_)));refine gH (x:=.lst ((bX g [o] b s).map aT)) (y:=.lst [aT ⟨o,p,s,none,n⟩]) (b1:=false) (b2:=true) rfl (aH [aT ⟨o,p,s,none,n⟩] (aE (aH [r,.int s,.int n] rfl (JG M hp s n)) rfl) (ga _ (by simp))) ?_;rw[uW];exact if_pos (cX (by rw[vI,length_singleton];omega))
noncomputable def yL (hk:List LK)(hv:LD)(o p:Str):Option Str:=match cm hk hv [.inr o,.inr p] with
 |some (.str h)=>some h
 |_=>none
def dW (K:KL)(hk:List LK)(hv:LD)(p:Str)(day:Int)(n:Nat)(o:Str):List Cl:=match yL hk hv o p with
 |some h=>if rF K h day=true then [⟨o,h,day,none,n⟩]else []
 |none=>[]
def dm (g:List Cl)(p:Str)(day:Int):LS:=jM (fy ((g.filter λc=>decide (c.p=p) && iw c day).map (·.o)))
def rG (K:KL)(g:List Cl)(hk:List LK)(hv:LD)(p:Str)(day:Int)(n:Nat):List Cl:=(dm g p day).flatMap (dW K hk hv p day n)
def lP (K:KL)(hk:List LK)(hv:LD)(p:Str)(day:Int)(n:Nat)(o:Str):(dW K hk hv p day n o).length<=1:=by
 unfold dW;split
 ·split<;>simp
 ·simp
theorem rH {α g:Type}(f:α->List g)(h:∀a,(f a).length<=1):∀l:List α,(l.flatMap f).length<=l.length
 |[]=>vT _
 |a::l=>by
  rw[uO,uZ,vE];have:=h a;have:=rH f h l;omega
def yM (g:List Cl)(p:Str)(day:Int):(dm g p day).length<=g.length:=by
 unfold dm;rw[(eY _).length_eq];refine vR (jZ _) ?_;rw[vI];exact vM _ _
def wC (g:gA ab)(aa:Int)(G:List Cl)(Pd:G.length<=60)(hk:List LK)(hv:LD)(Wu:∀v∈hv,∃s,v=.str s)(hx:x∈ak ab aa)(e:x.1=row a ("death" : Str) [.int d,.str p]):
  ky [.tup ab,.int aa,.lst (G.map aT),.dt hk hv,.int x.2]=lT ((rG (ak ab aa) G hk hv p d x.2).map aT):=by
 have ha:=(dw g hx).1;have Pe:aq [x.1,.str "person"]=sS p:=by rw[e];exact bx (i:=1) da rfl
 have Gh:aP [x.1]=sI d:=by rw[e];exact ju (.inl (by decide +kernel)) rfl
 have TN:=yM G p d;have Pf:∀(o:Str)(l:List Cl)(O:OB),l.length<=60->gU [sT ab,sI aa,sL (G.map aT),sF (.dt hk hv),sI x.2,sS p,sI d,lT (l.map aT),sS o,O]=some (.nx [sT ab,sI aa,sL (G.map aT),sF (.dt hk hv),sI x.2,sS p,sI d,lT ((l++dW (ak ab aa) hk hv p d x.2 o).map aT),sS o,some ((cm hk hv [.inr o,.inr p]).getD .non,false)]):=λo l O hl=>by
  have eg:EX (ah 3) (fV 8 (fV 5 aj)) [sT ab,sI aa,sL (G.map aT),sF (.dt hk hv),sI x.2,sS p,sI d,lT (l.map aT),sS o,O]=some ((cm hk hv [.inr o,.inr p]).getD .non,false):=by
   simp[iG,sizeLine]
  cases M:cm hk hv [.inr o,.inr p] with
  |none=>
   rw[M]at eg;have ei:dW (ak ab aa) hk hv p d x.2 o=[]:=by unfold dW yL;rw[M]
   rw[ei,uQ];exact fB .non eg rfl (lf (dz (p:=false) (q:=false) (cP (by simp)) (by simp)) rfl)
  |some v=>
   obtain⟨h,rfl⟩:=Wu v (rB M);rw[M]at eg;have RH:=yG ab g.rp g.le aa h d;rw[Iw]at RH;have U:∀ρ:DL.Env,ρ[0]? = some (sT ab)->ρ[1]? = some (sI aa)->ρ[6]? = some (sI d)->ρ[9]? = some (sS h)->dq (bp (f2 lA (ah 9) (fC .non))) (bp (fA m8 (fV 0 (fV 1 (fV 9 (fV 6 aj)))))) ρ=some (true && rF (ak ab aa) h d):=λρ q0 q1 q6 q9=>
    dz (cP (by simp[q9])) λ_=>cP (aH [.tup ab,.int aa,.str h,.int d] (by simp[q0,q1,q6,q9]) RH)
   cases T:rF (ak ab aa) h d with
   |false=>
    have ei:dW (ak ab aa) hk hv p d x.2 o=[]:=by unfold dW yL;rw[M];dsimp only;rw[T];rfl
    rw[ei,uQ];exact fB (.str h) eg rfl (lf (by rw[U _ rfl rfl rfl rfl,T];rfl) rfl)
   |true=>
    have ei:dW (ak ab aa) hk hv p d x.2 o=[⟨o,h,d,none,x.2⟩]:=by unfold dW yL;rw[M];dsimp only;rw[T];rfl
    rw[ei,uW];exact fB (.str h) eg rfl (ko (by rw[U _ rfl rfl rfl rfl,T];rfl) (jD (ds:=l.map aT) (d:=aT ⟨o,h,d,none,x.2⟩) (b:=false) rfl (aH [.str o,.str h,.int d,.non,.int x.2] rfl (c6 _ (by simp))) rfl (bH (by simp;omega))))
 obtain⟨ρ',el,v8,O,rfl⟩:=ig (tg:=cB 8) (g:=gU) (λj ρ=>∃v8 O:OB,ρ=[sT ab,sI aa,sL (G.map aT),sF (.dt hk hv),sI x.2,sS p,sI d,lT ((((dm G p d).take j).flatMap (dW (ak ab aa) hk hv p d x.2)).map aT),v8,O]) ((dm G p d).map .str)
  [sT ab,sI aa,sL (G.map aT),sF (.dt hk hv),sI x.2,sS p,sI d,lT [],none,none] ⟨none,none,rfl⟩ (by
   rintro j dd ρ hd ⟨v8,O,rfl⟩;rw[vA]at hd;obtain⟨o,ho,rfl⟩:=oY hd;have hl:(((dm G p d).take j).flatMap (dW (ak ab aa) hk hv p d x.2)).length<=60:=vR (rH _ (lP _ _ _ _ _ _) _) (by rw[length_take];omega);refine⟨_,_,rfl,.inl (Pf o _ O hl),sS o,some ((cm hk hv [.inr o,.inr p]).getD .non,false),?_⟩;rw[take_add_one,ho,toList_some,List.flatMap_append,uO,flatMap_nil,uQ])
 have e':gp (cB 8) gU ((dm G p d).map .str) [sT ab,sI aa,sL (G.map aT),sF (.dt hk hv),sI x.2,sS p,sI d,lT [],none,none]=some (.nx [sT ab,sI aa,sL (G.map aT),sF (.dt hk hv),sI x.2,sS p,sI d,lT ((rG (ak ab aa) G hk hv p d x.2).map aT),v8,O]):=by
  rw[el];have:(dm G p d).take ((dm G p d).map D.str).length=dm G p d:=by rw[vI,take_length]
  rw[this];rfl
 have RI:∀ρ:DL.Env,ρ[2]? = some (sL (G.map aT))->ρ[5]? = some (sS p)->ρ[6]? = some (sI d)->bV (f1 ia (bD (bV (ah 2)) 1 [5,6] (cB 0) (dq (bp (f2 eD (dZ 0 1) (ah 1))) (bp (fA cM (fV 0 (fV 2 aj))))) (dZ 0 0))) ρ=some ((dm G p d).map .str):=λρ q2 q5 q6=>by
  have hc:=gz (fi:=bV (ah 2)) (nT:=1) (cap:=[5,6]) (tg:=cB 0) (c:=dq (bp (f2 eD (dZ 0 1) (ah 1))) (bp (fA cM (fV 0 (fV 2 aj))))) (fe:=dZ 0 0) (ρ:=ρ) G aT (λc=>decide (c.p=p) && iw c d) (λc=>.str c.o) (by simp[q2]) (by omega) λc hc=>
   ⟨_,rfl,dz (cP (bw (.str c.p) (.str p) (bw (aT c) (.int 1) (by simp[dB]) rfl (ME c)) (by simp[dB,q5]) (by simp))) λ_=>cP (aH [aT c,.int d] (by simp[dB,q6]) (rm c d)),λ_=>⟨false,bw (aT c) (.int 0) (by simp[dB]) rfl (Om c)⟩⟩
  have e2:(G.filter λc=>decide (c.p=p) && iw c d).map (λc=>D.str c.o)=((G.filter λc=>decide (c.p=p) && iw c d).map (·.o)).map .str:=by rw[uP];rfl
  rw[e2]at hc;show(f1 ia _ ρ).bind _=_;unfold f1;rw[hc,vJ];have Wv:((G.filter λc=>decide (c.p=p) && iw c d).map (·.o)).length<64:=by rw[vI];exact lt_of_le_of_lt (vM _ _) (by omega)
  show((gy _).bind _).bind _=_;rw[rA,vJ,if_pos Wv];rfl
 refine av rfl (fB (.str p) (aH [x.1,.str "person"] (by simp[ha]) Pe) rfl (fB (.int d) (aH [x.1] (by simp[ha]) Gh) rfl (cz (ds:=[]) (by simp[sizeLine]) rfl (bZ (ρ':=[sT ab,sI aa,sL (G.map aT),sF (.dt hk hv),sI x.2,sS p,sI d,lT ((rG (ak ab aa) G hk hv p d x.2).map aT),v8,O]) ?_ (m7 rfl)))));exact gS (ρ:=[sT ab,sI aa,sL (G.map aT),sF (.dt hk hv),sI x.2,sS p,sI d,lT [],none,none]) (RI _ rfl rfl rfl) e'
def Fw (g:gA ab)(aa:Int)(G:List Cl)(M:G.length<=60)(hk:List LK)(hv:LD)(U:∀v∈hv,∃s,v=.str s)(hx:x∈ak ab aa)(e:x.1=row a ("death" : Str) [.int d,.str p]):
  iV [.tup ab,.int aa,.lst (G.map aT),.dt hk hv,.int x.2]=lT ((bX G (G.map Cl.o) p d++rG (ak ab aa) G hk hv p d x.2).map aT):=by
 have ha:=(dw g hx).1;have O:aq [x.1,.str "person"]=sS p:=by rw[e];exact bx (i:=1) da rfl
 have T:aP [x.1]=sI d:=by rw[e];exact ju (.inl (by decide +kernel)) rfl
 have h1:=lr (fi:=bV (ah 2)) (nT:=1) (cap:=[]) (tg:=cB 0) (fe:=dZ 0 0) (ρ:=[sT ab,sI aa,sL (G.map aT),sF (.dt hk hv),sI x.2,none,none]) G aT (λc=>.str c.o) (by simp) (by omega) λc hc=>⟨_,rfl,false,bw (aT c) (.int 0) (by simp[dB]) rfl (Om c)⟩;have e2:G.map (λc=>D.str c.o)=(G.map Cl.o).map .str:=by rw[uP];rfl
 rw[e2]at h1;have Jf:=gd (G.map Cl.o) p d G;have Mr:(rG (ak ab aa) G hk hv p d x.2).length<=60:=vR (rH _ (lP _ _ _ _ _ _) _) (vR (yM G p d) M);refine av rfl (cz (ds:=(G.map Cl.o).map .str) h1 (dR _) (cz (ds:=(bX G (G.map Cl.o) p d).map aT) (aH [.lst (G.map aT),.lst ((G.map Cl.o).map .str),.str p,.int d] (bS rfl (bS rfl (bS (aH [x.1,.str "person"] (by simp[ha]) O) (bS (aH [x.1] (by simp[ha]) T) rfl)))) (yK G M _ p d)) (jv _) (ax ?_)));refine gH (x:=.lst ((bX G (G.map Cl.o) p d).map aT)) (y:=.lst ((rG (ak ab aa) G hk hv p d x.2).map aT)) (b1:=false) (b2:=true) rfl (aH [.tup ab,.int aa,.lst (G.map aT),.dt hk hv,.int x.2] rfl (wC g aa G M hk hv U hx e)) ?_;rw[uW];exact if_pos (cX (by rw[vI,vI];omega))
abbrev MG:=List Cl×List LK×LD
def eQ (K:KL)(st:MG)(x:D×Nat):MG :=
 if cF K st.1 x=true then
  if kindOf x.1 = "named" then (st.1++[⟨ay 1 x.1,ay 2 x.1,aF x.1,none,x.2⟩],st.2)
  else if kindOf x.1 = "chosen" then (bX st.1 [ay 2 x.1] (ay 1 x.1) (gO 4 x.1)++[⟨ay 2 x.1,ay 3 x.1,gO 4 x.1,none,x.2⟩],st.2)
  else if kindOf x.1 = "heir" then (st.1,cV st.2.1 [.inr (ay 2 x.1),.inr (ay 1 x.1)],cW st.2.1 st.2.2 [.inr (ay 2 x.1),.inr (ay 1 x.1)] (.str (ay 3 x.1)))
  else (bX st.1 (st.1.map Cl.o) (ay 1 x.1) (aF x.1)++rG K st.1 st.2.1 st.2.2 (ay 1 x.1) (aF x.1) x.2,st.2)
 else st
def cn (K:KL):KL:=eP (λx=>c7 (kA x)) (K.filter λx=>!bf x.1)
noncomputable def mO (K:KL)(l:KL):MG:=l.foldl (eQ K) ([],[],[])
noncomputable def kC (c:Cl):List At:=[.s c.o,.i c.s,.i c.n]
def br (K:KL):List Cl:=eP (λc=>c7 (kC c)) (mO K (cn K)).1
noncomputable def As:LK->Str
 |[_,.inr p]=>p
 |_=>("" : Str)
noncomputable def Iy (dd:LS)(ks:List LK):Nat:=(ks.filter λk=>decide (As k∉dd)).length
structure zk (K l:KL)(dd:List Str)(st:MG):Prop where
 len:st.1.length+Iy dd st.2.1<=l.length
 ded:∀q∈dd,∃y∈l,i7 K q (aF y.1) y.2=true
 nod:(st.1.map λc=>(c.o,c.n)).Nodup
 num:∀c∈st.1,c.n∈l.map (·.2)
 hs:∀v∈st.2.2,∃s,v=D.str s
 hk:st.2.1.length<=l.length
def BL (h:told ws p d r=true):aF r<=d/\∀d',aF r<=d'->told ws p d' r=true:=by
 unfold told at h;split at h
 ·rename_i k aA;rw[vC]at h;obtain⟨h1,h2⟩:=h;unfold uh at h2;split at h2
  ·rename_i dd q;rw[vC]at h2;refine⟨of_decide_eq_true h2.2,λd' hd=>?_⟩;unfold told;rw[vC];refine⟨h1,?_⟩;unfold uh;rw[vC];exact⟨h2.1,decide_eq_true hd⟩
  ·cases h2
 ·cases h
theorem rJ:∀(r:KL)(b:D×Nat),oS b r∈b::r/\∀y∈b::r,dS y (oS b r)=false
 |[],b=>⟨by simp[oS],λy hy=>by rw[uT hy];simp[oS,dS]⟩
 |x::r,b=>by
  rw[oS,ww];by_cases h:dS x b=true
  ·rw[if_pos (by rw[h])];obtain⟨h1,h2⟩:=rJ r x;refine⟨mZ _ h1,λy hy=>?_⟩;rcases vP hy with rfl|hy
   ·have:=h2 x mX;unfold dS at *;simp at *;omega
   ·exact h2 y hy
  ·rw[if_neg (by simpa using h)];obtain⟨h1,h2⟩:=rJ r b;refine⟨?_,λy hy=>?_⟩
   ·rcases vP h1 with e|e
    ·rw[e];exact mX
    ·exact mZ _ (mZ _ e)
   ·rcases vP hy with rfl|hy
    ·exact h2 _ mX
    ·rcases vP hy with rfl|hy
     ·have:=h2 b mX;unfold dS at *;simp at *;omega
     ·exact h2 y (mZ _ hy)
def rK (h:i7 K p d i=true):∃m∈K,told dU p d m.1=true/\m.2=i/\∀y∈K,told dU p d y.1=true->dS y m=false:=by
 unfold i7 at h;split at h
 ·cases h
 ·rename_i b r e;obtain⟨h1,h2⟩:=rJ r b;rw[←e]at h1 h2;obtain⟨h3,h4⟩:=vN h1;exact⟨_,h3,h4,of_decide_eq_true h,λy hy g=>h2 y (mem_filter.mpr ⟨hy,g⟩)⟩
def Au (h1:i7 K p d1 i1=true)(h2:i7 K p d2 i2=true):i1=i2:=by
 obtain⟨M,k1,t1,e1,T⟩:=rK h1;obtain⟨O,k2,t2,e2,U⟩:=rK h2;have a1:=BL t1;have a2:=BL t2;by_cases hd:d1<=d2
 ·have g:=U M k1 (a1.2 d2 (by omega));have hm:aF O.1<=aF M.1:=by unfold dS at g;simp at g;omega
  have G:=T O k2 (a2.2 d1 (by omega));unfold dS at g G;simp at g G;omega
 ·have g:=T O k2 (a2.2 d1 (by omega));have hm:aF M.1<=aF O.1:=by unfold dS at g;simp at g;omega
  have G:=U M k1 (a1.2 d2 (by omega));unfold dS at g G;simp at g G;omega
theorem yN {κ:Type}[DecidableEq κ]:∀ {ks:List κ}{vs:LD}{k:κ}{v:D},cm ks vs k=some v->k∈ks
 |k'::ks,d::ds,k,v,h=>by
  unfold cm at h;split at h
  ·rename_i e;rw[←e];exact mX
  ·exact mZ _ (yN h)
 |[],_,_,_,h=>by simp[cm]at h
 |_::_,[],_,_,h=>by simp[cm]at h
theorem rL (p:Str)(dd:LS)(hp:p∉dd):∀ks:List LK,Iy dd ks=Iy (p::dd) ks+(ks.filter λk=>decide (As k=p)).length
 |[]=>rfl
 |k::ks=>by
  have g:=rL p dd hp ks;unfold Iy at g ⊢;by_cases e:As k=p
  ·rw[filter_cons_of_pos (by simpa [e]using hp),filter_cons_of_neg (by simp[e]),filter_cons_of_pos (by simp[e]),vE,vE];omega
  ·by_cases h:As k∈dd
   ·rw[filter_cons_of_neg (by simp[h]),filter_cons_of_neg (by simp[h]),filter_cons_of_neg (by simp[e])];exact g
   ·rw[filter_cons_of_pos (by simp[h]),filter_cons_of_pos (by simp[h,e]),filter_cons_of_neg (by simp[e]),vE,vE];omega
theorem kW (g:LS)(p:Str)(day:Int):∀G:List Cl,((bX G g p day).map λc=>(c.o,c.n)).Sublist (G.map λc=>(c.o,c.n))
 |[]=>List.Sublist.slnil
 |c::G=>by
  have M:=kW g p day G;unfold bX at M ⊢;rw[uO,uW,uY];have:((gb g p day c).map λc=>(c.o,c.n))=[(c.o,c.n)]∨((gb g p day c).map λc=>(c.o,c.n))=[]:=by
   unfold gb;split
   ·exact .inl rfl
   ·split
    ·exact .inl rfl
    ·exact .inr rfl
  rcases this with h|h
  ·rw[h];exact M.cons₂ _
  ·rw[h];exact M.cons _
def kX (h:c∈bX so offs p day):∃g∈so,g.o=c.o/\g.n=c.n:=by
 have:=(kW offs p day so).subset (uS ⟨c,h,rfl⟩);obtain⟨g,h1,h2⟩:=vO this;injection h2 with h3 h4;exact⟨g,h1,h3,h4⟩
theorem jw:∀(g G:LS),G.Nodup->(g.foldl gR G).Nodup
 |[],_,h=>h
 |s::g,G,h=>jw g _ (zS h s)
def rM (g:List Cl)(p:Str)(day:Int):(dm g p day).Nodup:=(eY _).nodup_iff.mpr (jw _ [] nodup_nil)
theorem yO (K:KL)(hk:List LK)(hv:LD)(p:Str)(day:Int)(n:Nat):∀os:LS,((os.flatMap (dW K hk hv p day n)).map λc=>(c.o,c.n)).Sublist (os.map λo=>(o,n))
 |[]=>List.Sublist.slnil
 |o::os=>by
  have g:=yO K hk hv p day n os;rw[uO,uW,uY];have:((dW K hk hv p day n o).map λc=>(c.o,c.n))=[(o,n)]∨((dW K hk hv p day n o).map λc=>(c.o,c.n))=[]:=by
   unfold dW;split
   ·split
    ·exact .inl rfl
    ·exact .inr rfl
   ·exact .inr rfl
  rcases this with h|h
  ·rw[h];exact g.cons₂ _
  ·rw[h];exact g.cons _
theorem uo {α:Type}[DecidableEq α]:∀(l m:List α),l.Nodup->(∀x∈l,x∈m)->l.length<=m.length
 |[],_,_,_=>uN _
 |x::l,m,h,s=>by
  rw[nodup_cons]at h;have hx:=s x mX;have:=uo l (m.erase x) h.2 λy hy=>(List.mem_erase_of_ne (a:=y) (b:=x) (λe=>h.1 (by rw[←e];exact hy))).mpr (s y (mZ _ hy));rw[List.length_erase_of_mem hx]at this;have:0<m.length:=List.length_pos_of_mem hx;rw[vE];omega
theorem uq {α g:Type}(f:α->List g)(q:α->Bool)(h:∀a,(f a).length<=1/\(q a=false->f a=[])):∀l:List α,(l.flatMap f).length<=(l.filter q).length
 |[]=>vT _
 |a::l=>by
  have G:=uq f q h l;rw[uO,uZ];cases hq:q a with
  |true=>rw[filter_cons_of_pos hq,vE];have:=(h a).1;omega
  |false=>rw[filter_cons_of_neg (by rw[hq];decide),(h a).2 hq];simpa using G
def Iz (K:KL)(g:List Cl)(hk:List LK)(hv:LD)(p:Str)(day:Int)(n:Nat):(rG K g hk hv p day n).length<=(hk.filter λk=>decide (As k=p)).length:=by
 refine vR (uq _ (λo=>(cm hk hv [.inr o,.inr p]).isSome) (λo=>⟨lP _ _ _ _ _ _ _,λh=>?_⟩) _) ?_
 ·have hl:cm hk hv [.inr o,.inr p]=none:=by simpa using h
  unfold dW yL;rw[hl]
 ·have G:(((dm g p day).filter λo=>(cm hk hv [.inr o,.inr p]).isSome).map λo=>([.inr o,.inr p]:LK)).Nodup:=List.Pairwise.map _ (λa b M e=>M (by injection e with e _;injection e)) ((rM g p day).filter _);have:=uo _ (hk.filter λk=>decide (As k=p)) G λk hm=>by
   obtain⟨o,O,rfl⟩:=vO hm;obtain⟨v,hv⟩:=uU (vN O).2;exact mem_filter.mpr ⟨yN hv,decide_eq_true rfl⟩
  rwa [vI]at this
def zk.step {K l:KL}{dd:LS}{st:MG}(h:zk K l dd st){x:D×Nat}(hx:x.2∉l.map (·.2)):∃Ww,zk K (l++[x]) Ww (eQ K st x):=by
 have up:∀ {n:Nat},n∈l.map (·.2)->n∈(l++[x]).map (·.2):=λh=>by rw[uW];exact mem_append_left _ h
 have me:x.2∈(l++[x]).map (·.2):=by simp
 have O:(l++[x]).length=l.length+1:=by simp
 have G:∀q∈dd,∃y∈l++[x],i7 K q (aF y.1) y.2=true:=λq hq=>by
  obtain⟨y,h1,h2⟩:=h.ded q hq;exact⟨y,mem_append_left _ h1,h2⟩
 have wk:zk K (l++[x]) dd st:=⟨by have:=h.len;omega,G,h.nod,λc hc=>up (h.num c hc),h.hs,by have:=h.hk;omega⟩;have jP:=h.len;unfold eQ;split
 ·rename_i g;split
  ·refine⟨dd,by simp;omega,G,?_,λc hc=>?_,h.hs,by rw[O];exact le_succ_of_le h.hk⟩
   ·rw[uW,nodup_append];refine⟨h.nod,by simp,λa ha b hb e=>?_⟩;obtain⟨c,hc,rfl⟩:=vO ha;simp at hb;subst hb;injection e with _ e2;exact hx (e2 ▸ h.num c hc)
   ·rcases mem_append.mp hc with hc|hc
    ·exact up (h.num c hc)
    ·rw[uT hc];exact me
  ·split
   ·have hl:=gd [ay 2 x.1] (ay 1 x.1) (gO 4 x.1) st.1;refine⟨dd,by simp;omega,G,?_,λc hc=>?_,h.hs,by rw[O];exact le_succ_of_le h.hk⟩
    ·rw[uW,nodup_append];refine⟨h.nod.sublist (kW _ _ _ _),by simp,λa ha b hb e=>?_⟩;obtain⟨c,hc,rfl⟩:=vO ha;simp at hb;subst hb;injection e with _ e2;obtain⟨M,h1,_,h3⟩:=kX hc;exact hx (e2 ▸ h3 ▸ h.num M h1)
    ·rcases mem_append.mp hc with hc|hc
     ·obtain⟨M,h1,_,h3⟩:=kX hc;rw[←h3];exact up (h.num M h1)
     ·rw[uT hc];exact me
   ·split
    ·have hp:∀k:LK,Iy dd (cV st.2.1 k)<=Iy dd st.2.1+1/\(cV st.2.1 k).length<=st.2.1.length+1:=λk=>by
      unfold cV;split
      ·omega
      ·have:([k].filter λk=>decide (As k∉dd)).length<=1:=vM _ _;unfold Iy;rw[filter_append,uZ,uZ,length_singleton];omega
     refine⟨dd,?_,G,wk.nod,wk.num,λv hv=>?_,?_⟩
     ·have:=(hp [.inr (ay 2 x.1),.inr (ay 1 x.1)]).1;rw[O];show st.1.length+Iy dd (cV st.2.1 [.inr (ay 2 x.1),.inr (ay 1 x.1)])<=_;omega
     ·rcases uj hv with hv|hv
      ·exact⟨_,hv⟩
      ·exact h.hs v hv
     ·have:=(hp [.inr (ay 2 x.1),.inr (ay 1 x.1)]).2;have:=h.hk;rw[O];show(cV _ _).length<=_;omega
    ·rename_i n1 n2 n3;have hd:kindOf x.1 = "death":=by
      unfold cF at g;by_cases hd:kindOf x.1 = "death"
      ·exact hd
      ·rw[if_neg hd,if_neg (by simp[wB,n1,n2,n3])]at g;cases g
     have hf:i7 K (ay 1 x.1) (aF x.1) x.2=true:=by unfold cF at g;rwa [if_pos hd]at g
     have Wx:ay 1 x.1∉dd:=λhm=>by
      obtain⟨y,h1,h2⟩:=h.ded _ hm;exact hx (by rw[←Au h2 hf];exact uS ⟨y,h1,rfl⟩)
     have hl:=gd (st.1.map Cl.o) (ay 1 x.1) (aF x.1) st.1;have X1:=Iz K st.1 st.2.1 st.2.2 (ay 1 x.1) (aF x.1) x.2;have T3:=rL (ay 1 x.1) dd Wx st.2.1;have T:=yO K st.2.1 st.2.2 (ay 1 x.1) (aF x.1) x.2 (dm st.1 (ay 1 x.1) (aF x.1));have U:∀c∈rG K st.1 st.2.1 st.2.2 (ay 1 x.1) (aF x.1) x.2,c.o∈dm st.1 (ay 1 x.1) (aF x.1)/\c.n=x.2:=λc hc=>by
      have:=T.subset (uS ⟨c,hc,rfl⟩);obtain⟨o,h1,h2⟩:=vO this;injection h2 with h3 h4;exact⟨h3 ▸ h1,h4.symm⟩
     refine⟨ay 1 x.1::dd,?_,λq hq=>?_,?_,λc hc=>?_,h.hs,by rw[O];exact le_succ_of_le h.hk⟩
     ·rw[O];show(bX st.1 (st.1.map Cl.o) (ay 1 x.1) (aF x.1)++rG K st.1 st.2.1 st.2.2 (ay 1 x.1) (aF x.1) x.2).length+Iy _ st.2.1<=_;rw[uZ];omega
     ·rcases vP hq with rfl|hq
      ·exact⟨x,by simp,hf⟩
      ·exact G q hq
     ·rw[uW,nodup_append];refine⟨h.nod.sublist (kW _ _ _ _),List.Nodup.sublist T (List.Pairwise.map _ (λa b hab e=>hab (by injection e)) (rM _ _ _)),λa ha b hb e=>?_⟩;obtain⟨c,hc,rfl⟩:=vO ha;obtain⟨c2,Kc,rfl⟩:=vO hb;injection e with _ e2;obtain⟨M,h1,_,h3⟩:=kX hc;exact hx ((U c2 Kc).2 ▸ e2 ▸ h3 ▸ h.num M h1)
     ·rcases mem_append.mp hc with hc|hc
      ·obtain⟨M,h1,_,h3⟩:=kX hc;rw[←h3];exact up (h.num M h1)
      ·rw[(U c hc).2];exact me
 ·exact⟨dd,wk⟩
def IA (e:ρ[i]? = some (some (.dt ks vs,true)))(g:fv ρ=some (d,b))(ek:fk ρ=some kd)(hk:iG kd=some kk)(hf:bg d=true)(h1:ks.length<=1000)(h2:kd.length<=1000):tS i fk fv ρ=some (.nx (ρ.set i (some (.dt (cV ks kk) (cW ks vs kk d),true)))):=by
 unfold tS;rw[e];dsimp only;rw[g,vJ,ek,vJ,hk,vJ,if_pos ⟨hf,bH (by omega),cX (by omega)⟩]
def QG (a b:Cl):(bo (kC a) (kC b)).isSome=true:=by
 unfold kC;rw[bo];split
 ·rw[bo];split
  ·rw[bo];split
   ·rw[bo];rfl
   ·rfl
  ·rfl
 ·rfl
def BM (cs:List Cl):dc (cs.map kC)=true:=by
 unfold dc;simp[all_eq_true,QG]
theorem nQ {α M:Type}(f:α->M):∀ {l:List α},(l.map f).Nodup->∀ {a b:α},a∈l->b∈l->f a=f b->a=b
 |[],_,_,_,ha,_,_=>by cases ha
 |c::l,h,a,b,ha,hb,e=>by
  rw[uY,nodup_cons]at h;rcases vP ha with G|ha1
  ·rcases vP hb with g|hb1
   ·rw[G,g]
   ·exact absurd (uS ⟨b,hb1,by rw[←e,G]⟩) h.1
  ·rcases vP hb with g|hb1
   ·exact absurd (uS ⟨a,ha1,by rw[e,g]⟩) h.1
   ·exact nQ f h.2 ha1 hb1 e
def Fx {cs:List Cl}{a b:Cl}(ha:a∈cs)(hb:b∈cs)(e:c7 (kC a)=c7 (kC b)):(a.o,a.n)=(b.o,b.n):=by
 have h:=kP (BM cs) (uS ⟨a,ha,rfl⟩) (uS ⟨b,hb,rfl⟩) e;unfold kC at h;injection h with h1 h2;injection h1 with h1;injection h2 with _ h3;injection h3 with h3 _;injection h3 with h3;rw[h1,show a.n=b.n by omega]
def IB (g:gA ab)(aa:Int)(h:zk (ak ab aa) l dd st)(hj:l.length<=60)(hx:x∈ak ab aa)(TQ:bf x.1=false)(v5:OB):
  ∃w5,(kR [sT ab,sI aa,lT (st.1.map aT),some (.dt st.2.1 st.2.2,true),sI x.2,v5]=some (.nx [sT ab,sI aa,lT ((eQ (ak ab aa) st x).1.map aT),some (.dt (eQ (ak ab aa) st x).2.1 (eQ (ak ab aa) st x).2.2,true),sI x.2,w5])
   ∨ kR [sT ab,sI aa,lT (st.1.map aT),some (.dt st.2.1 st.2.2,true),sI x.2,v5]=some (.ct [sT ab,sI aa,lT ((eQ (ak ab aa) st x).1.map aT),some (.dt (eQ (ak ab aa) st x).2.1 (eQ (ak ab aa) st x).2.2,true),sI x.2,w5])):=by
 obtain⟨ha,T⟩:=dw g hx;have U:st.1.length<=60:=by have:=h.len;omega
 have hf:bg x.1=true:=T.rp.flat;have ec:=Dr g aa st.1 U hx TQ;have M:fD (bp (fA mB (fV 0 (fV 1 (fV 2 (fV 4 aj)))))) [sT ab,sI aa,lT (st.1.map aT),some (.dt st.2.1 st.2.2,true),sI x.2,some (x.1,false)]=some (!cF (ak ab aa) st.1 x) :=
  cx (cP (aH [.tup ab,.int aa,.lst (st.1.map aT),.int x.2] (by simp) ec))
 have hw:fA aK (fV 5 aj) [sT ab,sI aa,lT (st.1.map aT),some (.dt st.2.1 st.2.2,true),sI x.2,some (x.1,false)]=sS (kindOf x.1):=aH [x.1] rfl (iY T);refine⟨some (x.1,false),?_⟩;cases hc:cF (ak ab aa) st.1 x with
 |false=>
  rw[hc]at M;have es:eQ (ak ab aa) st x=st:=by unfold eQ;rw[hc];rfl
  rw[es];exact .inr (fB x.1 (by simp[ha]) hf (QF (ko M rfl)))
 |true=>
  rw[hc]at M;left;refine fB x.1 (by simp[ha]) hf (bZ (lf M rfl) ?_);by_cases hn:kindOf x.1 = "named"
  ·have es:eQ (ak ab aa) st x=(st.1++[⟨ay 1 x.1,ay 2 x.1,aF x.1,none,x.2⟩],st.2):=by unfold eQ;rw[hc,if_pos rfl,if_pos hn]
   rw[es];refine ko (bQ (bb:=false) hw (decide_eq_true hn)) ?_;have O:aq [x.1,.str "office"]=sS (ay 1 x.1)/\aq [x.1,.str "person"]=sS (ay 2 x.1):=by
    obtain⟨a,k,aA,e,d⟩:=T;rw[e]at hn ⊢;replace hn:k = "named":=hn;cases d with
    |named d o p=>exact⟨bx (i:=1) da rfl,bx (i:=2) da rfl⟩
    |root=>exact cN hn
    |chosen=>exact cN hn
    |heir=>exact cN hn
    |three _ hk=>rcases hk with rfl|rfl|rfl<;>exact cN hn
    |other _ hk=>rcases hk with rfl|rfl|rfl|rfl|rfl<;>exact cN hn
   have Gh:aP [x.1]=sI (aF x.1):=by rw[rj T];unfold sD;rw[TQ];rfl
   have e2:f2 aV (ah 2) (fA bv (ag (fA g8 (fV 5 (ag (fA aP (fV 5 aj)) (fV 4 aj)))) aj)) [sT ab,sI aa,lT (st.1.map aT),some (.dt st.2.1 st.2.2,true),sI x.2,some (x.1,false)]=lT (st.1.map aT++[aT ⟨ay 1 x.1,ay 2 x.1,aF x.1,none,x.2⟩]):=by
    refine gH (x:=.lst (st.1.map aT)) (y:=.lst [aT ⟨ay 1 x.1,ay 2 x.1,aF x.1,none,x.2⟩]) (b1:=false) (b2:=true) rfl ?_ (if_pos (cX (by rw[vI,length_singleton];omega)));exact aH [aT ⟨ay 1 x.1,ay 2 x.1,aF x.1,none,x.2⟩] (aE (aH [x.1,.int (aF x.1),.int x.2] (bS rfl (bS (aH [x.1] rfl Gh) rfl)) (JG O.1 O.2 _ _)) rfl) (ga _ (by simp))
   have:=wo (i:=2) e2 (by have hq:=jv (st.1++[(⟨ay 1 x.1,ay 2 x.1,aF x.1,none,x.2⟩:Cl)]);rwa [uW]at hq);rw[uW];exact this
  ·refine lf (bQ (bb:=false) hw (decide_eq_false hn)) ?_;by_cases G:kindOf x.1 = "chosen"
   ·have es:eQ (ak ab aa) st x=(bX st.1 [ay 2 x.1] (ay 1 x.1) (gO 4 x.1)++[⟨ay 2 x.1,ay 3 x.1,gO 4 x.1,none,x.2⟩],st.2):=by unfold eQ;rw[hc,if_pos rfl,if_neg hn,if_pos G]
    rw[es];refine ko (bQ (bb:=false) hw (decide_eq_true G)) (wo (i:=2) (aH [.lst (st.1.map aT),x.1,.int x.2] rfl ?_) (jv _));obtain⟨a,k,aA,e,d⟩:=T;rw[e]at G ⊢;replace G:k = "chosen":=G;cases d with
    |chosen d b o p s=>exact Ds st.1 U x.2
    |root=>exact cN G
    |named=>exact cN G
    |heir=>exact cN G
    |three _ hk=>rcases hk with rfl|rfl|rfl<;>exact cN G
    |other _ hk=>rcases hk with rfl|rfl|rfl|rfl|rfl<;>exact cN G
   ·refine lf (bQ (bb:=false) hw (decide_eq_false G)) ?_;by_cases hh:kindOf x.1 = "heir"
    ·have es:eQ (ak ab aa) st x=(st.1,cV st.2.1 [.inr (ay 2 x.1),.inr (ay 1 x.1)],cW st.2.1 st.2.2 [.inr (ay 2 x.1),.inr (ay 1 x.1)] (.str (ay 3 x.1))):=by unfold eQ;rw[hc,if_pos rfl,if_neg hn,if_neg G,if_pos hh]
     rw[es];have O:aq [x.1,.str "office"]=sS (ay 2 x.1)/\aq [x.1,.str "by"]=sS (ay 1 x.1)/\aq [x.1,.str "person"]=sS (ay 3 x.1):=by
      obtain⟨a,k,aA,e,d⟩:=T;rw[e]at hh ⊢;replace hh:k = "heir":=hh;cases d with
      |heir d b o p=>exact⟨bx (i:=2) da rfl,bx (i:=1) da rfl,bx (i:=3) da rfl⟩
      |root=>exact cN hh
      |named=>exact cN hh
      |chosen=>exact cN hh
      |three _ hk=>rcases hk with rfl|rfl|rfl<;>exact cN hh
      |other _ hk=>rcases hk with rfl|rfl|rfl|rfl|rfl<;>exact cN hh
     exact ko (bQ (bb:=false) hw (decide_eq_true hh)) (IA (ks:=st.2.1) (vs:=st.2.2) (kd:=[.str (ay 2 x.1),.str (ay 1 x.1)]) (b:=false) rfl (aH [x.1,.str "person"] rfl O.2.2) (aE (aH [x.1,.str "office"] rfl O.1) (aE (aH [x.1,.str "by"] rfl O.2.1) rfl)) rfl rfl (by have:=h.hk;omega) (by simp))
    ·refine lf (bQ (bb:=false) hw (decide_eq_false hh)) ?_;have es:eQ (ak ab aa) st x=(bX st.1 (st.1.map Cl.o) (ay 1 x.1) (aF x.1)++rG (ak ab aa) st.1 st.2.1 st.2.2 (ay 1 x.1) (aF x.1) x.2,st.2):=by unfold eQ;rw[hc,if_pos rfl,if_neg hn,if_neg G,if_neg hh]
     rw[es];have hd:kindOf x.1 = "death":=by
      unfold cF at hc;by_cases hd:kindOf x.1 = "death"
      ·exact hd
      ·rw[if_neg hd,if_neg (by simp[wB,hn,G,hh])]at hc;cases hc
     refine wo (i:=2) (aH [.tup ab,.int aa,.lst (st.1.map aT),.dt st.2.1 st.2.2,.int x.2] (by simp) ?_) (jv _);obtain⟨a,k,aA,e,d⟩:=T;have hk:k = "death":=by rw[e]at hd;exact hd
     subst hk;obtain⟨dd,p,rfl⟩:=d.deed.three (by decide +kernel);have:=Fw g aa st.1 U st.2.1 st.2.2 h.hs hx e;rw[this,e];rfl
theorem BN (K:KL):∀(l g:KL)(st:MG)(dd:LS),zk K g dd st->((g++l).map (·.2)).Nodup->∃G,zk K (g++l) G (l.foldl (eQ K) st)
 |[],g,st,dd,h,_=>⟨dd,by rw[uQ];exact h⟩
 |x::l,g,st,dd,h,hn=>by
  have hx:x.2∉g.map (·.2):=λhm=>by
   rw[uW,nodup_append]at hn;exact hn.2.2 _ hm x.2 (by simp) rfl
  obtain⟨G,h'⟩:=h.step hx;have e:g++x::l=(g++[x])++l:=by simp
  rw[e]at hn ⊢;exact BN K l _ _ _ h' hn
def BO (K l:KL)(h:(l.map (·.2)).Nodup):∃dd,zk K l dd (mO K l):=by
 have:=BN K l [] ([],[],[]) [] ⟨uN _,by simp,by simp,by simp,by simp,uN _⟩ h;exact this
def jx (h:(K.map (·.2)).Nodup):((cn K).map (·.2)).Nodup:=((aR _ _).map _).nodup_iff.mpr (List.Nodup.sublist (List.Sublist.map _ filter_sublist) h)
def nR {ab:LD}(g:gA ab)(aa:Int)(T:(cn (ak ab aa)).length<=60):k6 [.tup ab,.int aa]=lT ((br (ak ab aa)).map aT)/\(br (ak ab aa)).length<=60:=by
 have eL:dL [.tup ab,.int aa]=lT ((cn (ak ab aa)).map λx=>.int x.2):=oD g aa;generalize U:ak ab aa=K at T eL ⊢;have RJ:∀x∈cn K,x∈K/\bf x.1=false:=λx hx=>by
  obtain⟨h1,h2⟩:=vN ((aR _ _).mem_iff.mp hx);exact⟨h1,by simpa using h2⟩
 have Mz:((cn K).map (·.2)).Nodup:=jx (by rw[←U];exact dj ab aa);obtain⟨ρ',e,v4,v5,rfl⟩:=ig (tg:=cB 4) (g:=kR) (λj ρ=>∃v4 v5:OB,ρ=[sT ab,sI aa,lT ((mO K ((cn K).take j)).1.map aT),some (.dt (mO K ((cn K).take j)).2.1 (mO K ((cn K).take j)).2.2,true),v4,v5]) ((cn K).map λx=>.int x.2)
  [sT ab,sI aa,lT [],some (.dt [] [],true),none,none] ⟨none,none,rfl⟩ (by
   rintro j d ρ hd ⟨v4,v5,rfl⟩;rw[vA]at hd;obtain⟨x,hx,rfl⟩:=oY hd;have X2:j<(cn K).length:=(vV hx).1;have et:(cn K).take (j+1)=(cn K).take j++[x]:=by rw[take_add_one,hx];rfl
   have ef:mO K ((cn K).take (j+1))=eQ K (mO K ((cn K).take j)) x:=by rw[et];unfold mO;rw[foldl_append];rfl
   obtain⟨PV,Wy⟩:=RJ x (vL hx);obtain⟨dd,h⟩:=BO K ((cn K).take j) (List.Nodup.sublist (List.Sublist.map _ (take_sublist _ _)) Mz);rw[←U]at h;have G:=IB g aa h (by rw[U,length_take];omega) (x:=x) (by rw[U];exact PV) Wy v5;rw[U]at G;obtain⟨w5,G⟩:=G;exact⟨_,_,rfl,G,sI x.2,w5,by rw[ef]⟩)
 have Gg:(cn K).take ((cn K).map λx=>D.int x.2).length=cn K:=by rw[vI,take_length]
 rw[Gg]at e;obtain⟨dd,M⟩:=BO K (cn K) Mz;generalize MN:(mO K (cn K))=st at e M;have Gy:st.1.length<=60:=by have:=M.len;omega
 have TR:br K=eP (λc=>c7 (kC c)) st.1:=by unfold br;rw[MN]
 have hm:∀ρ:DL.Env,jl (sA g7 ρ) (st.1.map aT)=some (st.1.map λc=>.tup [.str c.o,.int c.s,.int c.n]):=λρ=>iu st.1 λc _=>by
  show(g7 [aT c]).map _=_;rw[wz];rfl
 have hk:de (st.1.map λc=>D.tup [.str c.o,.int c.s,.int c.n])=some (st.1.map kC):=gZ st.1 λc _=>rfl;have O:(st.1.map kC).length<64/\dc (st.1.map kC)=true/\dr (st.1.map kC)=true/\((st.1.map kC).map c7).Nodup:=by
  refine⟨by rw[vI];omega,BM _,?_,?_⟩
  ·unfold dr;rw[or_eq_true];right;simp[all_eq_true,kC]
  ·rw[uP];have h1:st.1.Pairwise λa b=>(a.o,a.n)≠(b.o,b.n):=pairwise_map.mp M.nod;have h2:st.1.Pairwise λa b=>c7 (kC a)≠c7 (kC b):=by
    refine List.Pairwise.imp_of_mem ?_ h1;intro a b ha hb Gw e;exact Gw (Fx ha hb e)
   exact pairwise_map.mpr h2
 have hz:(st.1.map kC).zip (st.1.map aT)=st.1.map λc=>(kC c,aT c):=by rw[zip_map']
 have key:((br K).map λc=>(kC c,aT c))=eP (λp:List At×D=>c7 p.1) (st.1.map λc=>(kC c,aT c)):=by
  rw[TR];refine ib _ (λx hx y hy e=>?_) ((aR _ _).map _) ?_
  ·obtain⟨a,ha,rfl⟩:=vO hx;obtain⟨b,hb,rfl⟩:=vO hy;rw[nQ (λc:Cl=>(c.o,c.n)) M.nod ha hb (Fx ha hb e)]
  ·exact pairwise_map.mpr (eZ _ _)
 refine⟨av rfl (cz (ds:=[]) (by simp[sizeLine]) rfl (bZ (ρ':=[sT ab,sI aa,lT [],some (.dt [] [],true),none,none]) rfl (bZ (gS (ds:=(cn K).map λx=>.int x.2) ?_ e) (ax ?_)))),by rw[TR,(aR _ _).length_eq];exact Gy⟩
 ·show(fA dL (fV 0 (fV 1 aj)) _).bind _=_;rw[aH [.tup ab,.int aa] rfl eL];rfl
 ·unfold qm;show((some (D.lst (st.1.map aT),false)).bind _)=_;simp only[vJ];rw[hm];simp only[vJ];rw[hk];simp only[vJ];rw[if_pos O];unfold jm;rw[hz,←key,uP];rfl
end Lw
namespace Lw
open PySem PySem.Spec DL L2
def yP (ns:LI)(k:Nat)(x:Int):∃c:Int,(az (aO 2 (f2 bA (f2 fH (f2 aV (f2 aV (f2 bA (ah 2) (fI 2147483629)) (f2 fH (fI 6151) (ah 1))) (fI 1)) (fI 48271)) (fI 2147483647)))
  (aX (f2 bA (f2 fH (ah 2) (f2 aV (f2 aV (f2 bA (ah 2) (fI 65519)) (ah 1)) (fI 2))) (fI 2147483629)))) [sL (ns.map .int),sI k,sI x]=some (.rt (.int c) false)/\0<=c:=by
 obtain⟨y,hy⟩:∃y,((x % 2147483629+6151*k+1)*48271) % 2147483647=y:=⟨_,rfl⟩;have hb:0<=y/\y<2147483647:=by rw[←hy];exact mod_lt (by decide)
 have hc : -18446744073709551616<y/\y<18446744073709551616:=by omega
 exact⟨(y*(y % 65519+k+2)) % 2147483629,fB (.int y) (by simp[hy]) rfl (ax (by simp[hc])),(mod_lt (by decide)).1⟩
def fL (ns:LI)(k:Nat):∃c:Int,bB [.lst (ns.map .int),.int k]=sI c/\0<=c:=by
 by_cases h:ns.length=0
 ·have e:ns=[]:=List.length_eq_zero_iff.mp h;subst e;obtain⟨c,h1,h2⟩:=yP [] k 5;exact⟨c,av rfl (fB (.int 5) rfl rfl (a9 (cP (by simp)) h1)),h2⟩
 ·have hm:=mod_lt (x:=(k:Int)) (m:=ns.length) (by omega);obtain⟨c,h1,h2⟩:=yP ns k (ns.getD ((k:Int) % ns.length).toNat 0);refine⟨c,av rfl (fB (.int 5) rfl rfl (bZ (ko (cP (by simp;omega)) (qE (d:=.int (ns.getD ((k:Int) % ns.length).toNat 0)) (b:=false) ?_ rfl)) h1)),h2⟩;refine bw (.lst (ns.map .int)) (.int ((k:Int) % ns.length)) rfl ?_ (B2 hm.1 (by omega));refine bw (.int k) (.int ns.length) rfl (by simp) ?_;have g:¬ns=[]:=λe=>h (by rw[e];rfl);simp[bA,g]
def Fy {ρ:DL.Env}{i n:Nat}{ds:LD}{g G:FE}{d:D}{b b':Bool}(e:ρ[i]? = some (lT ds))(M:G ρ=some (d,b))(ek:g ρ=some (.int n,b'))(hn:n<ds.length)(hf:bg d=true):CK i g G ρ=some (.nx (ρ.set i (lT (ds.set n d)))):=by
 have hx:C1 ds.length (n:Int)=some n:=by
  unfold C1;rw[if_pos (by omega)];simp[hn]
 simp only[CK,e,M,ek,vJ,hx,if_pos hf]
theorem BP:∀(zs:LS),(∀z∈zs,z.length=1)->(zs.map (·.length)).sum=zs.length
 |[],_=>rfl
 |z::zs,h=>by
  rw[uY,List.sum_cons,BP zs λy hy=>h y (mZ _ hy),h z mX,vE];omega
def BQ (x:Int):0<=x % 26/\x % 26<26:=mod_lt (by decide)
noncomputable def mP:PySem.Str:="abcdefghijklmnopqrstuvwxyz"
def Dt:mP.cps.size=26:=by decide +kernel
def Oq (x:Int):Str:=⟨#[mP.cps.toList.getD (x % 26).toNat 0]⟩
def Fz (x:Int):bK (.str mP) (.int (x % 26))=sS (Oq x):=DL.zA (BQ x).1 (by rw[Dt];have:=BQ x;omega) (by decide +kernel)
theorem yQ:∀(zs:LS)(y:Str),(Str.join ("" : Str) (y::zs)).cps.toList=(y::zs).flatMap λz=>z.cps.toList
 |[],y=>by rw[uO,flatMap_nil,uQ];rfl
 |z::r,y=>by
  have g:∀a b:Str,(a++b).cps.toList=a.cps.toList++b.cps.toList:=λa b=>by show(a.cps++b.cps).toList=_;simp
  show(y++("" : Str)++Str.join ("" : Str) (z::r)).cps.toList=_;rw[g,g,yQ r z,show("" : Str).cps.toList=[]from rfl,uQ];rfl
def F0 (h:zs≠[]):(Txt.join ("" : Str) zs).cps.toList=zs.flatMap λz=>z.cps.toList:=by
 cases zs with
 |nil=>exact absurd rfl h
 |cons y zs=>
  unfold Txt.join;rw[StrLaws.glued_eq_join];exact yQ zs y
theorem mQ (x y:Nat):∀(bs:LS)(a:Nat),a<bs.length->(∀z∈bs,∃c,z.cps.toList=[c])->((bs.set a ⟨#[x]⟩).flatMap λz=>z.cps.toList)=((bs.set a ⟨#[y]⟩).flatMap λz=>z.cps.toList)->x=y
 |b::bs,0,_,_,h=>by
  rw[List.set_cons_zero,List.set_cons_zero,uO,uO]at h;exact(List.cons.inj h).1
 |b::bs,a+1,hl,hb,h=>by
  rw[List.set_cons_succ,List.set_cons_succ,uO,uO]at h;exact mQ x y bs a (by simpa using hl) (λz hz=>hb z (mZ _ hz)) (List.append_cancel_left h)
def F1:∀i j:Fin 26,mP.cps.toList.getD i.val 0=mP.cps.toList.getD j.val 0->i=j:=by decide +kernel
def yR (bs:LS)(a:Nat)(c:Int)(i:Nat):Str:=Txt.join ("" : Str) (bs.set a (Oq (c / 64+3*(i:Int))))
def JH {bs:LS}{a:Nat}{c:Int}{i j:Nat}(ha:a<bs.length)(hb:∀z∈bs,∃c,z.cps.toList=[c])(G:(3*(i:Int) - 3*(j:Int)) % 26≠0):yR bs a c i≠yR bs a c j:=by
 intro e;have e:=congrArg (λs:Str=>s.cps.toList) e;unfold yR at e;have g:∀x,bs.set a x≠[]:=λx z=>by have:=congrArg List.length z;rw[length_set,length_nil]at this;omega
 simp only[F0 (g _)]at e;have:=mQ _ _ bs a ha hb e;have h1:=BQ (c / 64+3*(i:Int));have h2:=BQ (c / 64+3*(j:Int));have:=F1 ⟨((c / 64+3*(i:Int)) % 26).toNat,by omega⟩ ⟨((c / 64+3*(j:Int)) % 26).toNat,by omega⟩ this;have:=congrArg Fin.val this;simp only at this;omega
def F3 (c:Int)(hc:0<=c):∃zs:LS,nG [.int c]=lT (zs.map .str)/\zs.length=7/\∀x y,zs[5]? = some x->zs[6]? = some y->x≠y:=by
 have h8:=mod_lt (x:=c) (m:=8) (by decide);obtain⟨n,hn⟩:∃n:Nat,1+c % 8=n:=⟨(1+c % 8).toNat,by omega⟩;have Wz:1<=n:=by omega
 have X3:n<=8:=by omega
 let bs:LS:=(List.range n).map λ(k:Nat)=>Oq (c / (3+4*k));have M:bs.length=n:=by simp[bs]
 have hb:=lr (fi:=cU (f2 aV (fI 1) (f2 bA (ah 0) (fI 8)))) (nT:=1) (cap:=[1,0]) (tg:=cB 0) (fe:=f2 bK (ah 1) (f2 bA (f2 cO (ah 2) (f2 aV (fI 3) (f2 fH (fI 4) (ah 0)))) (fI 26)))
  (ρ:=[sI c,sS mP,none,none,none,none,none]) (List.range n) (λ(k:Nat)=>.int k) (λ(k:Nat)=>.str (Oq (c / (3+4*k))))
  (by rw[eE (j:=n) (b:=false) (by simp;omega) (by omega),Dm];simp) (by simp;omega) λk hk=>by
   have hk:=mem_range.mp hk;refine⟨_,rfl,false,bw (.str mP) (.int (c / (3+4*k) % 26)) (by simp[dB]) ?_ (Fz _)⟩;have h1:(0:Int)<3+4*k:=by omega
   have h2:(3:Int)+4*k<1073741824:=by omega
   simp[dB,h1,h2]
 have TJ:bD (cU (f2 aV (fI 1) (f2 bA (ah 0) (fI 8)))) 1 [1,0] (cB 0) fE (f2 bK (ah 1) (f2 bA (f2 cO (ah 2) (f2 aV (fI 3) (f2 fH (fI 4) (ah 0)))) (fI 26))) [sI c,sS mP,none,none,none,none,none]=lT (bs.map .str):=by
  rw[hb];simp[bs]
 have X4:=mod_lt (x:=c / 8) (m:=n) (by omega);obtain⟨a,ha⟩:∃a:Nat,c / 8 % n=a:=⟨(c / 8 % n).toNat,by omega⟩;obtain⟨zs,O,T,e,hz,G⟩:∃(zs:LS)(O T:OB),gp (cB 5) lM (gG 0 7) [sI c,sS mP,lT (bs.map .str),sI (c / 8 % n),lT [],none,none]=some (.nx [sI c,sS mP,lT (bs.map .str),sI (c / 8 % n),lT (zs.map .str),O,T])/\zs.length=7/\zs=(List.range 7).map (yR bs a c):=by
  obtain⟨ρ',e,zs,O,T,rfl,hz,G⟩:=jp (tg:=cB 5) (g:=lM) 7 (λi ρ=>∃(zs:LS)(O T:OB),ρ=[sI c,sS mP,lT (bs.map .str),sI (c / 8 % n),lT (zs.map .str),O,T]/\zs.length=i/\zs=(List.range i).map (yR bs a c))
   [sI c,sS mP,lT (bs.map .str),sI (c / 8 % n),lT [],none,none] ⟨[],none,none,rfl,rfl,rfl⟩ (by
    rintro i ρ hi ⟨zs,O,T,rfl,hz,G⟩;let l:=Oq (c / 64+3*i);let nm:=bs.set a l;have h1:∀z∈nm,z.length=1:=λz hz=>by
     rcases List.mem_or_eq_of_mem_set hz with h|h
     ·obtain⟨k,_,rfl⟩:=vO h;rfl
     ·rw[h];rfl
    have W1:nm.length=n:=by simp[nm,M]
    refine⟨_,_,rfl,.inl (cz (ds:=bs.map .str) (by simp) (dR _) (bZ (Fy (n:=a) (ds:=bs.map .str) (d:=.str l) (b:=false) (b':=false) rfl ?_ ?_ (by simp[M];omega) rfl) (jD (ds:=zs.map .str) (d:=.str (Txt.join ("" : Str) nm)) (b:=false) rfl ?_ rfl (bH (by simp;omega))))),zs++[Txt.join ("" : Str) nm],sI i,lT (nm.map .str),?_,by simp[hz],by rw[G,List.range_succ,uW];rfl⟩
    ·exact bw (.str mP) (.int ((c / 64+3*i) % 26)) rfl (by simp) (Fz _)
    ·simp[ha]
    ·refine bw (.str "") (.lst (nm.map .str)) rfl (by simp[nm]) ?_;show(gy (nm.map .str)).bind _=_;rw[rA];have:=BP nm h1;have h0:("" : Str).length=0:=rfl;show(if _ then _ else _)=_;rw[if_pos (by rw[this,h0,W1];omega)]
    ·simp[nm])
  exact⟨zs,O,T,e,hz,G⟩
 have hsz:(bs.length:Int)=n:=by omega
 refine⟨if c / 1000 % 8=1 then zs.set 5 (zs.getD 0 ⟨#[]⟩)else zs,?_,by split<;>simp[hz],?_⟩
 refine av rfl (fB (.str mP) rfl rfl (cz (ds:=bs.map .str) TJ (dR _) (fB (.int (c / 8 % n)) ?_ rfl (cz (ds:=[]) (by simp[sizeLine]) (by simp) (bZ (jq (eE (j:=7) (b:=false) rfl (by decide)) e) ?_)))))
 ·have:(bs.length:Int)≠0:=by omega
  refine bw (.int (c / 8)) (.int n) (by simp) (by simp[M]) ?_;have h1:(0:Int)<n:=by omega
  show(if decide ((0:Int)<n)=true then _ else _)=_;rw[if_pos (decide_eq_true h1)]
 ·by_cases h:c / 1000 % 8=1
  ·rw[if_pos h];have h5:5<(zs.map D.str).length:=by simp[hz]
   obtain⟨z0,zr,rfl⟩:∃z0 zr,zs=z0::zr:=by cases zs with|nil=>simp at hz|cons a b=>exact⟨a,b,rfl⟩
   refine bZ (ko (cP (by simp[h])) (Fy (n:=5) (ds:=(z0::zr).map .str) (d:=.str z0) (b:=false) (b':=false) rfl ?_ rfl h5 rfl)) (m7 ?_)
   ·exact bw (.lst ((z0::zr).map .str)) (.int 0) rfl rfl (by simp[Gr])
   ·simp
  ·rw[if_neg h];exact a9 (cP (by simp[h])) (m7 rfl)
 ·have TU:a<bs.length:=by omega
  have TV:∀z∈bs,∃c,z.cps.toList=[c]:=λz hz=>by obtain⟨k,_,rfl⟩:=vO hz;exact⟨_,rfl⟩
  intro x y hx hy;have h0:zs[0]? = some (yR bs a c 0):=by rw[G];rfl
  have h5:zs[5]? = some (yR bs a c 5):=by rw[G];rfl
  have h6:zs[6]? = some (yR bs a c 6):=by rw[G];rfl
  split at hx
  ·rename_i U;rw[if_pos U,vB (by decide),h6]at hy;rw[getElem?_set_self (by omega),vF,h0]at hx;cases hx;cases hy
   exact JH TU TV (by decide)
  ·rename_i U;rw[if_neg U,h6]at hy;rw[h5]at hx;cases hx;cases hy
   exact JH TU TV (by decide)
def iB (x:Int×OI):D:=.tup [.int x.1,uD x.2]
def jy (x:Int×OI):bg (iB x)=true:=by simp[iB,BH]
def ur (x:Int×OI):aN 5 (iB x)=true:=by obtain⟨s,u⟩:=x;cases u<;>simp[iB,uD]
def Av (a d m:Int):∃x,g9 [.int a,.int d,.int m]=some (iB x,false):=by
 have M:=mod_lt (x:=a) (m:=8) (by decide);let g:List (Int×OI):=[(0,none),(d,none),(d,some (d+3*m)),(0,some (d+2*m)),(0,some (9*m))];let L2:List (Int×OI):=[(d+m,some (d+4*m)),(d / 2,some (d+6*m)),(0,none)];have G:∀L:List (Int×OI),b8 (L.map iB)=true:=λL=>bW λd hd=>by obtain⟨x,_,rfl⟩:=vO hd;exact jy x
 have hi:(a % 8).toNat<((g++L2).map iB).length:=by show _<8;omega
 refine⟨(g++L2).getD (a % 8).toNat (0,none),av rfl (cz (ds:=g.map iB) (by simp[g,iB,uD,sizeLine]) (G _) (cz (ds:=(g++L2).map iB) ?_ (G _) (ax (bw (.lst ((g++L2).map iB)) (.int (a % 8)) rfl (by simp) ((An M.1 hi).trans ?_)))))⟩
 ·refine gH (x:=.lst (g.map iB)) (y:=.lst (L2.map iB)) (b1:=false) (b2:=true) rfl (by simp[L2,iB,uD,sizeLine]) ?_;simp[g,L2,sizeLine]
 ·rw[vF,vA,vF];rw[vI]at hi;rw[vU hi];rfl
def kH {zs:LS}{i:Int}(h1 : -(zs.length:Int)<=i)(h2:i<zs.length):∃z∈zs,bK (.lst (zs.map .str)) (.int i)=sS z:=by
 obtain⟨j,hj,hl⟩:∃j,C1 (zs.map D.str).length i=some j/\j<zs.length:=by
  unfold C1;rw[vI];by_cases h0:0<=i
  ·rw[if_pos h0,if_pos h2];exact⟨_,rfl,by omega⟩
  ·rw[if_neg h0,if_pos (by omega)];exact⟨_,rfl,by omega⟩
 refine⟨zs[j],getElem_mem hl,?_⟩;have:nZ (zs.map D.str) i=some (.str zs[j]):=by unfold nZ;rw[hj,vJ,vA,vU hl];rfl
 simp[this]
noncomputable def MR:LN:=[7,255,3,15]
noncomputable def MS:LN:=[1,2,3,4,5,7,128,255]
inductive Dd:Str->List D->Prop
 |root (o r:Str) (m:Nat) (hm:m∈MR) (f:Int):Dd ("root" : Str) [.str o,.int m,.int f,.str r]
 |named (d:Int) (o p:Str):Dd ("named" : Str) [.int d,.str o,.str p]
 |chosen (d:Int) (b o p:Str) (s:Int):Dd ("chosen" : Str) [.int d,.str b,.str o,.str p,.int s]
 |heir (d:Int) (b o p:Str):Dd ("heir" : Str) [.int d,.str b,.str o,.str p]
 |three (k:Str) (hk:k = "death" ∨ k = "lost" ∨ k = "found") (d:Int) (p:Str):Dd k [.int d,.str p]
 |leave (d:Int) (b p:Str) (m:Nat) (hm:m∈MS) (x:Int×Option Int) (f:Int):Dd ("leave" : Str) [.int d,.str b,.str p,.int m,iB x,.int f]
 |paper (k:Str) (hk:k = "paper" ∨ k = "like") (d:Int) (b:Str) (m:Nat) (hm:m∈MS) (x:Int×Option Int) (r:List D) (hf:b8 r=true) (hp:r.all (aN 5)=true):Dd k (.int d::.str b::.int m::iB x::r)
 |copy (k:Str) (hk:k = "copy" ∨ k = "call") (d:Int) (b:Str) (n:Nat):Dd k [.int d,.str b,.int n]
def Dd.cd (h:Dd k r):Cd k r:=by
 cases h with
 |root o r m hm f=>exact .root _ _ _ _
 |named d o p=>exact .named _ _ _
 |chosen d b o p s=>exact .chosen _ _ _ _ _
 |heir d b o p=>exact .heir _ _ _ _
 |three k hk d p=>exact .three _ hk _ _
 |leave d b p m hm x f=>exact .other _ (.inl rfl) _ _ _ (by simp[jy]) (by simp only[all_cons,all_nil,ur,aN,Bool.and_true])
 |paper k hk d b m hm x r hf hp=>exact .other _ (hk.elim (λh=>.inr (.inl h)) λh=>.inr (.inr (.inl h))) _ _ _ (by simp[hf,jy]) (by simp only[all_cons,hp,ur,aN,Bool.and_true])
 |copy k hk d b n=>exact .other _ (hk.elim (λh=>.inr (.inr (.inr (.inl h)))) λh=>.inr (.inr (.inr (.inr h)))) _ _ _ rfl (by simp)
def Dd.had3 (h:Dd k r)(hk:k = "leave" ∨ k = "named"):∃p,r[2]? = some (.str p):=by
 have hk:k∈[("leave" : Str),"named"]:=by simpa using hk
 cases h with
 |named d o p=>exact⟨p,rfl⟩
 |leave d b p=>exact⟨p,rfl⟩
 |root=>exact cN hk
 |chosen=>exact cN hk
 |heir=>exact cN hk
 |three k g=>rcases g with rfl|rfl|rfl<;>exact cN hk
 |paper k g=>rcases g with rfl|rfl<;>exact cN hk
 |copy k g=>rcases g with rfl|rfl<;>exact cN hk
def Dd.had4 (h:Dd k r)(hk:k = "chosen"):∃p,r[3]? = some (.str p):=by
 cases h with
 |chosen d b o p=>exact⟨p,rfl⟩
 |root=>exact cN hk
 |named=>exact cN hk
 |leave=>exact cN hk
 |heir=>exact cN hk
 |three k g=>rcases g with rfl|rfl|rfl<;>exact cN hk
 |paper k g=>rcases g with rfl|rfl<;>exact cN hk
 |copy k g=>rcases g with rfl|rfl<;>exact cN hk
def Dd.flat (h:Dd k r):b8 r=true:=h.cd.deed.flat
noncomputable def fM:LS:=[("leave" : Str),"leave","leave","leave","leave","paper","paper","like","copy","copy","call","call","named","death","lost","found","chosen","heir"]
def Du (h:w∈fM):w = "leave" ∨ w = "paper" ∨ w = "like" ∨ w = "copy" ∨ w = "call" ∨ w = "named" ∨ w = "death" ∨ w = "lost" ∨ w = "found" ∨ w = "chosen" ∨ w = "heir":=by
 simp only[fM,mem_cons,not_mem_nil,or_false]at h;rcases h with rfl|rfl|rfl|rfl|rfl|rfl|rfl|rfl|rfl|rfl|rfl|rfl|rfl|rfl|rfl|rfl|rfl|rfl<;>simp
def F4 (g c o day m:Int)(zs G:LS)(hz:zs.length=7)(hh:G≠[]):
  ∃(w O p:Str)(T:Nat),w∈fM/\∀(h:FS)(r:Option Res),h [sI g,sI c,sI o,sL (zs.map .str),sI day,sL (G.map .str),sI m,lT (fM.map .str),sS w,sS O,sS p,sI T,none,none,none]=r ->
   (az (aO 7 (f2 aV (f2 aV (Dc (fA bv (ag (fS "leave") aj)) (fI 5)) (Dc (fA bv (ag (fS "paper") aj)) (fI 2))) (fA bv (ag (fS "like") (ag (fS "copy") (ag (fS "copy") (ag (fS "call") (ag (fS "call") aj)))))))) (az (aO 7 (f2 aV (ah 7) (fA bv (ag (fS "named") (ag (fS "death") (ag (fS "lost") (ag (fS "found") (ag (fS "chosen") (ag (fS "heir") aj))))))))) (az (aO 8 (f2 bK (ah 7) (f2 bA (ah 1) (fI 18)))) (az (aO 9 (f2 bK (ah 5) (f2 vh (f1 nw (fI 1)) (f2 bA (f2 cO (ah 1) (fI 18)) (fA Hu (ag (fI 3) (ag (fA fx (fV 5 aj)) aj))))))) (az (eI (bp (f2 eD (f2 bA (f2 cO (ah 1) (fI 54)) (fI 6)) (fI 1))) (aO 9 (f2 bK (ah 3) (f2 bA (f2 cO (ah 1) (fI 324)) (fI 5)))) bq) (az (aO 10 (f2 bK (ah 3) (f2 bA (f2 cO (ah 1) (fI 1620)) (fI 5)))) (az (aO 11 (fA Ht (ag (fI 0) (ag (f2 vh (f2 vh (ah 0) (fI 1)) (f2 bA (ah 2) (fI 4))) aj)))) (az (eI (bp (f2 eD (f2 bA (f2 cO (ah 2) (fI 4)) (fI 8)) (fI 1))) (aO 11 (f2 bA (f2 cO (ah 2) (fI 32)) (fI 60))) bq) h)))))))) [sI g,sI c,sI o,sL (zs.map .str),sI day,sL (G.map .str),sI m,none,none,none,none,none,none,none,none]=r:=by
 have X5:=mod_lt (x:=c) (m:=18) (by decide);obtain⟨w,hw,ew⟩:=kH (zs:=fM) (i:=c % 18) (by simp[fM];omega) (by simp[fM];omega);obtain⟨n,hn,M,X6⟩:∃n:Int,(if(G.length:Int)<3 then (G.length:Int)else 3)=n/\0<n/\n<=G.length:=by
  have:0<G.length:=List.length_pos_iff.mpr hh;split
  ·exact⟨_,rfl,by omega,by omega⟩
  ·exact⟨_,rfl,by omega,by omega⟩
 have X7:=mod_lt (x:=c / 18) (m:=n) M;obtain⟨U,_,W2⟩:=kH (zs:=G) (i:=-1 - c / 18 % n) (by omega) (by omega);have h5:=mod_lt (x:=c / 324) (m:=5) (by decide);obtain⟨b1,_,W3⟩:=kH (zs:=zs) (i:=c / 324 % 5) (by omega) (by omega);have X8:=mod_lt (x:=c / 1620) (m:=5) (by decide);obtain⟨p,_,ep⟩:=kH (zs:=zs) (i:=c / 1620 % 5) (by omega) (by omega);have X9:=mod_lt (x:=o / 32) (m:=60) (by decide);obtain⟨f0,W4⟩:∃f0:Nat,(if g - 1 - o % 4 > 0 then g - 1 - o % 4 else 0)=(f0:Int):=by
  split
  ·exact⟨(g - 1 - o % 4).toNat,by omega⟩
  ·exact⟨0,rfl⟩
 obtain⟨f1,W5⟩:∃f1:Nat,o / 32 % 60=(f1:Int):=⟨(o / 32 % 60).toNat,by omega⟩;refine⟨w,if c / 54 % 6=1 then b1 else U,p,if o / 4 % 8=1 then f1 else f0,hw,λh r hr=>?_⟩;refine cz (ds:=(fM.take 12).map .str) ?_ (dR _) (cz (ds:=fM.map .str) ?_ (dR _) (fB (.str w) (bw (.lst (fM.map .str)) (.int (c % 18)) rfl (by simp) ew) rfl (fB (.str U) ?_ rfl (bZ (ρ':=[sI g,sI c,sI o,sL (zs.map .str),sI day,sL (G.map .str),sI m,lT (fM.map .str),sS w,sS (if c / 54 % 6=1 then b1 else U),none,none,none,none,none]) ?_ (fB (.str p) ?_ rfl (fB (.int f0) ?_ rfl (bZ ?_ hr)))))))
 ·have e1:∀(s:Str)(k:Nat),k<=100->Dc (fA bv (ag (fS s) aj)) (fC (.int k)) [sI g,sI c,sI o,sL (zs.map .str),sI day,sL (G.map .str),sI m,none,none,none,none,none,none,none,none]=lT (List.replicate k (.str s)):=λs k hk=>by
   have h1:(k:Int)<=1000:=by omega
   have h2:k<=1000:=by omega
   have h3:∀n:Nat,(List.replicate n [D.str s]).flatten=List.replicate n (.str s):=λn=>by
    induction n with
    |zero=>rfl
    |succ n ih=>rw[replicate_succ,flatten_cons,ih,replicate_succ];rfl
   simp[sizeLine,h1,h2,h3]
  have z:∀n:Nat,n<=100->n<=sizeLine:=λn h=>cX (by omega);refine gH (x:=.lst ((fM.take 7).map .str)) (y:=.lst (((fM.drop 7).take 5).map .str)) (b1:=true) (b2:=true) (gH (x:=.lst ((fM.take 5).map .str)) (y:=.lst (List.replicate 2 (.str "paper"))) (b1:=true) (b2:=true) (e1 _ 5 (by decide)) (e1 _ 2 (by decide)) ?_) (aH (((fM.drop 7).take 5).map .str) rfl (ga _ (by simp[fM]))) ?_
  ·refine(if_pos (c:=7<=sizeLine) (e:=none) (z 7 (by decide))).trans ?_;rfl
  ·refine(if_pos (c:=12<=sizeLine) (e:=none) (z 12 (by decide))).trans ?_;rfl
 ·refine gH (x:=.lst ((fM.take 12).map .str)) (y:=.lst ((fM.drop 12).map .str)) (b1:=false) (b2:=true) rfl (aH ((fM.drop 12).map .str) rfl (ga _ (by decide))) ?_;refine(if_pos (c:=18<=sizeLine) (e:=none) (cX (by decide))).trans ?_;rfl
 ·refine bw (.lst (G.map .str)) (.int (-1 - c / 18 % n)) rfl ?_ W2;refine bw (.int (-1)) (.int (c / 18 % n)) rfl ?_ rfl;refine bw (.int (c / 18)) (.int n) (by simp) (by simp[hn]) ?_;show(if decide ((0:Int)<n)=true then _ else _)=_;rw[if_pos (decide_eq_true M)]
 ·by_cases hx:c / 54 % 6=1
  ·rw[if_pos hx];exact ko (cP (by simp[hx])) (qE (d:=.str b1) (b:=false) (bw (.lst (zs.map .str)) (.int (c / 324 % 5)) rfl (by simp) W3) rfl)
  ·rw[if_neg hx];exact lf (cP (by simp[hx])) rfl
 ·exact bw (.lst (zs.map .str)) (.int (c / 1620 % 5)) rfl (by simp) ep
 ·show some (D.int (if g - 1 - o % 4 > 0 then g - 1 - o % 4 else 0),false)=_;rw[W4]
 ·by_cases hx:o / 4 % 8=1
  ·simp only[if_pos hx];exact ko (cP (by simp[hx])) (qE (d:=.int f1) (b:=false) (by simp[W5]) rfl)
  ·simp only[if_neg hx];exact lf (cP (by simp[hx])) rfl
def mR {ns:LI}{i:Int}(h1:0<=i)(h2:i<ns.length):∃m∈ns,bK (.lst (ns.map .int)) (.int i)=sI m:=by
 have h:i.toNat<ns.length:=by omega
 refine⟨ns.getD i.toNat 0,?_,B2 h1 h⟩;rw[vF,vU h];exact getElem_mem h
def nS (h : -1000<=a/\a<=1000):Le (.int a) (.int b)=sI (a*b):=by
 have : -18446744073709551616<a/\a<18446744073709551616:=by omega
 simp[this]
def cZ (e:ρ[i]? = some (sS a))(h:decide (a=b)=false:=by decide +kernel):bp (f2 eD (ah i) (fS b)) ρ=some false:=bQ (a:=a) (bb:=false) (by simp[e]) h
def Aw (e:ρ[i]? = some (sS a))(h:decide (a=b)=true:=by decide +kernel):bp (f2 eD (ah i) (fS b)) ρ=some true:=bQ (a:=a) (bb:=false) (by simp[e]) h
def yS (x:Bool)(e:ρ[i]? = some (sS a))(h:decide (a∈[b,c])=x:=by decide +kernel):bp (f2 sk (ah i) (fA be (ag (fS b) (ag (fS c) aj)))) ρ=some x:=cP (bw (.str a) (.tup ([b,c].map .str)) (by simp[e]) (by simp[sizeLine]) (by rw[ir,h]))
def JJ {l:LI}{x:Int}(h:x∈l)(hl:l.all (λy=>decide (0<=y/\y.toNat∈MS))=true):∃m:Nat,x=m/\m∈MS:=by
 have:=of_decide_eq_true (uR hl x h);exact⟨x.toNat,by omega,this.2⟩
def IC (many c o day m:Int)(zs RK:LS)(hz:zs.length=7)(hh:RK≠[]):
  ∃k r,qZ [.int many,.int c,.int o,.lst (zs.map .str),.int day,.lst (RK.map .str),.int m]=sT (.str k::r)/\Dd k r/\k ≠ "root":=by
 obtain⟨w,g,p,G,hw,pre⟩:=F4 many c o day m zs RK hz hh;obtain⟨s,es⟩:=Av (o / 32) day m;have h8:=mod_lt (x:=c / 8100) (m:=8) (by decide);obtain⟨XA,RL,W6⟩:=mR (ns:=[3,1,7,2,255,5,1,3]) (i:=c / 8100 % 8) h8.1 h8.2;obtain⟨XB,RM,TW⟩:=mR (ns:=[1,1,3,2,4,5,128,7]) (i:=c / 8100 % 8) h8.1 h8.2;obtain⟨m1,rfl,TX⟩:=JJ RL (by decide);obtain⟨T,rfl,PX⟩:=JJ RM (by decide);have h4:=mod_lt (x:=o / 2560) (m:=4) (by decide);obtain⟨dv,RN,ed⟩:=mR (ns:=[5,5,5,10]) (i:=o / 2560 % 4) h4.1 h4.2;have RO:0<dv:=by simp only[mem_cons,not_mem_nil,or_false]at RN;omega
 have h2:=mod_lt (x:=o / 256) (m:=2) (by decide);obtain⟨O,W7,U,TY⟩:∃O,bK (.lst [.non,.str p]) (.int (o / 256 % 2))=some (O,false)/\bg O=true/\aN 5 O=true:=by
  rcases (show o / 256 % 2=0∨o / 256 % 2=1 by omega)with h|h
  ·rw[h];exact⟨.non,by simp[Gr],rfl,by simp⟩
  ·rw[h];exact⟨.str p,by simp[Gs],rfl,by simp⟩
 have MH:=mod_lt (x:=o) (m:=2) (by decide);have XC:=mod_lt (x:=o) (m:=2) (by decide);obtain⟨off,_,eo⟩:=kH (zs:=zs) (i:=5+o % 2) (by omega) (by omega);obtain⟨Pg,_,W8⟩:=kH (zs:=zs) (i:=5+o % 2) (by omega) (by omega);have XD:=mod_lt (x:=o / 32) (m:=3) (by decide);have RP:∀(ρ:DL.Env),ρ[2]? = some (sI o)->ρ[4]? = some (sI day)->ρ[6]? = some (sI m)->fA g9 (ag (f2 cO (ah 2) (fI 32)) (fV 4 (fV 6 aj))) ρ=some (iB s,false):=λρ q1 q2 q3=>
  aH [.int (o / 32),.int day,.int m] (by simp[q1,q2,q3]) es
 have Ph:∀(ρ:DL.Env),ρ[2]? = some (sI o)->ρ[3]? = some (sL (zs.map .str))->f2 bK (ah 3) (f2 aV (fI 5) (f2 bA (ah 2) (fI 2))) ρ=sS off:=λρ q1 q2=>bw (.lst (zs.map .str)) (.int (5+o % 2)) (by simp[q2]) (by simp[q1]) eo;have RQ:∀(ns:LI)(M:Nat)(ρ:DL.Env)(fl:FE),fl ρ=lT (ns.map .int)->ρ[1]? = some (sI c)->bK (.lst (ns.map .int)) (.int (c / 8100 % 8))=sI M->f2 bK fl (f2 bA (f2 cO (ah 1) (fI 8100)) (fI 8)) ρ=sI M:=λns M ρ fl e1 q e=>gH (x:=.lst (ns.map .int)) (y:=.int (c / 8100 % 8)) (b1:=true) (b2:=false) e1 (by simp[q]) e;have TZ:∀(ρ:DL.Env),ρ[2]? = some (sI o)->ρ[10]? = some (sS p)->f2 bK (fA bv (ag (fC .non) (fV 10 aj))) (f2 bA (f2 cO (ah 2) (fI 256)) (fI 2)) ρ=some (O,false):=λρ q1 q2=>gH (x:=.lst [.non,.str p]) (y:=.int (o / 256 % 2)) (b1:=true) (b2:=false) (by simp[sizeLine,q2]) (by simp[q1]) W7;rcases Du hw with rfl|rfl|rfl|rfl|rfl|rfl|rfl|rfl|rfl|rfl|rfl
 ·refine⟨_,[.int day,.str g,.str p,.int m1,iB s,.int (o / 256 % dv)],av rfl (pre _ _ ?_),.leave _ _ _ _ TX _ _,by decide +kernel⟩;refine bE (Aw rfl) (fB (.int m1) (RQ [3,1,7,2,255,5,1,3] _ _ _ (by simp[sizeLine]) rfl W6) rfl (fB (.int (o / 256 % dv)) ?_ rfl (ax (aH [.str "leave",.int day,.str g,.str p,.int m1,iB s,.int (o / 256 % dv)] (bS rfl (bS rfl (bS rfl (bS rfl (bS rfl (aE (RP _ rfl rfl rfl) (bS rfl rfl))))))) (c6 _ (by simp))))));refine bw (.int (o / 256)) (.int dv) (by simp) (gH (x:=.lst (([5,5,5,10]:LI).map .int)) (y:=.int (o / 2560 % 4)) (b1:=true) (b2:=false) (by simp[sizeLine]) (by simp) ed) ?_;show(if decide ((0:Int)<dv)=true then _ else _)=_;rw[if_pos (decide_eq_true RO)]
 ·refine⟨_,[.int day,.str g,.int T,iB s,O,.tup [.str p]],av rfl (pre _ _ ?_),.paper _ (.inl rfl) _ _ _ PX _ _ (by simp[U]) (by simp[TY]),by decide +kernel⟩;exact a9 (cZ rfl) (bE (cL (p:=true) (q:=false) (Aw rfl) λ_=>cZ rfl) (fB (.int T) (RQ [1,1,3,2,4,5,128,7] _ _ _ (by simp[sizeLine]) rfl TW) rfl (fB (.tup [.str "paper",.int day,.str g,.int T,iB s,O]) (aH [.str "paper",.int day,.str g,.int T,iB s,O] (bS rfl (bS rfl (bS rfl (bS rfl (aE (RP _ rfl rfl rfl) (aE (TZ _ rfl rfl) rfl)))))) (c6 _ (by simp))) (by simp[jy,U]) (a9 (cZ rfl) (ax (bw (.tup [.str "paper",.int day,.str g,.int T,iB s,O]) (.tup [.tup [.str p]]) rfl (by simp[sizeLine]) (by simp[sizeLine])))))))
 ·refine⟨_,[.int day,.str g,.int T,iB s,O,.int G,.tup [.tup [.int 0,.str p]]],av rfl (pre _ _ ?_),.paper _ (.inr rfl) _ _ _ PX _ _ (by simp[U]) (by simp[TY]),by decide +kernel⟩;exact a9 (cZ rfl) (bE (cL (p:=false) (q:=true) (cZ rfl) λ_=>Aw rfl) (fB (.int T) (RQ [1,1,3,2,4,5,128,7] _ _ _ (by simp[sizeLine]) rfl TW) rfl (fB (.tup [.str "like",.int day,.str g,.int T,iB s,O]) (aH [.str "like",.int day,.str g,.int T,iB s,O] (bS rfl (bS rfl (bS rfl (bS rfl (aE (RP _ rfl rfl rfl) (aE (TZ _ rfl rfl) rfl)))))) (c6 _ (by simp))) (by simp[jy,U]) (bE (Aw rfl) (ax (bw (.tup [.str "like",.int day,.str g,.int T,iB s,O]) (.tup [.int G,.tup [.tup [.int 0,.str p]]]) rfl (by simp[sizeLine]) (by simp[sizeLine])))))))
 ·exact⟨_,[.int day,.str g,.int G],av rfl (pre _ _ (a9 (cZ rfl) (a9 (cL (p:=false) (q:=false) (cZ rfl) λ_=>cZ rfl) (bE (yS true rfl) (ax (aH [.str "copy",.int day,.str g,.int G] rfl (c6 _ (by simp)))))))),.copy _ (.inl rfl) _ _ _,by decide +kernel⟩
 ·exact⟨_,[.int day,.str g,.int G],av rfl (pre _ _ (a9 (cZ rfl) (a9 (cL (p:=false) (q:=false) (cZ rfl) λ_=>cZ rfl) (bE (yS true rfl) (ax (aH [.str "call",.int day,.str g,.int G] rfl (c6 _ (by simp)))))))),.copy _ (.inr rfl) _ _ _,by decide +kernel⟩
 ·exact⟨_,[.int day,.str off,.str p],av rfl (pre _ _ (a9 (cZ rfl) (a9 (cL (p:=false) (q:=false) (cZ rfl) λ_=>cZ rfl) (a9 (yS false rfl) (bE (Aw rfl) (ax (aH [.str "named",.int day,.str off,.str p] (bS rfl (bS rfl (aE (Ph _ rfl rfl) (bS rfl rfl)))) (c6 _ (by simp))))))))),.named _ _ _,by decide +kernel⟩
 ·exact⟨_,[.int day,.str g],av rfl (pre _ _ (a9 (cZ rfl) (a9 (cL (p:=false) (q:=false) (cZ rfl) λ_=>cZ rfl) (a9 (yS false rfl) (a9 (cZ rfl) (a9 (cZ rfl) (a9 (cZ rfl) (ax (aH [.str "death",.int day,.str g] rfl (c6 _ (by simp))))))))))),.three _ (.inl rfl) _ _,by decide +kernel⟩
 ·exact⟨_,[.int day,.str g],av rfl (pre _ _ (a9 (cZ rfl) (a9 (cL (p:=false) (q:=false) (cZ rfl) λ_=>cZ rfl) (a9 (yS false rfl) (a9 (cZ rfl) (a9 (cZ rfl) (a9 (cZ rfl) (ax (aH [.str "lost",.int day,.str g] rfl (c6 _ (by simp))))))))))),.three _ (.inr (.inl rfl)) _ _,by decide +kernel⟩
 ·exact⟨_,[.int day,.str g],av rfl (pre _ _ (a9 (cZ rfl) (a9 (cL (p:=false) (q:=false) (cZ rfl) λ_=>cZ rfl) (a9 (yS false rfl) (a9 (cZ rfl) (a9 (cZ rfl) (a9 (cZ rfl) (ax (aH [.str "found",.int day,.str g] rfl (c6 _ (by simp))))))))))),.three _ (.inr (.inr rfl)) _ _,by decide +kernel⟩
 ·refine⟨_,[.int day,.str g,.str Pg,.str p,.int (day+o / 32 % 3*m)],av rfl (pre _ _ (a9 (cZ rfl) (a9 (cL (p:=false) (q:=false) (cZ rfl) λ_=>cZ rfl) (a9 (yS false rfl) (a9 (cZ rfl) (bE (Aw rfl) (ax (aH [.str "chosen",.int day,.str g,.str Pg,.str p,.int (day+o / 32 % 3*m)] ?_ (c6 _ (by simp)))))))))),.chosen _ _ _ _ _,by decide +kernel⟩;exact bS rfl (bS rfl (bS rfl (aE (bw (.lst (zs.map .str)) (.int (5+o % 2)) rfl (by simp) W8) (bS rfl (bS (bw (.int day) (.int (o / 32 % 3*m)) rfl (bw (.int (o / 32 % 3)) (.int m) (by simp) rfl (nS (by omega))) rfl) rfl)))))
 ·exact⟨_,[.int day,.str g,.str off,.str p],av rfl (pre _ _ (a9 (cZ rfl) (a9 (cL (p:=false) (q:=false) (cZ rfl) λ_=>cZ rfl) (a9 (yS false rfl) (a9 (cZ rfl) (a9 (cZ rfl) (bE (Aw rfl) (ax (aH [.str "heir",.int day,.str g,.str off,.str p] (bS rfl (bS rfl (bS rfl (aE (Ph _ rfl rfl) (bS rfl rfl))))) (c6 _ (by simp))))))))))),.heir _ _ _ _,by decide +kernel⟩
def bY (r:D):Prop:=∃h k aA,r=row h k aA/\Dd k aA
def bY.c (g:bY r):wy r:=by obtain⟨h,k,aA,e,d⟩:=g;exact⟨h,k,aA,e,d.cd⟩
def bY.flat (g:bY r):bg r=true:=g.c.rp.flat
def Ot (g m O:Int)(xs zs M:LS)(ns:LI)(ab:LD)(hz:zs.length=7)(i:Nat)(hi:i<2)(hr:ab.length<=100)(hh:M.length<=100)(v8 v9 Pj Pk:OB):
  ∃r1 r2 p w8 w9 RS RT,(bY r1/\bf r1=true/\zs[5+i]? = some (ay 0 r1))/\(bY r2/\bf r2=false)/\nH [sL (ns.map .int),sL (zs.map .str),sI m,sI O,sI g,lT ab,lT (M.map .str),sI i,v8,v9,Pj,Pk,none,none,none]
   = some (.nx [sL (ns.map .int),sL (zs.map .str),sI m,sI O,sI g,lT (ab++[r1]++[r2]),lT ((M++[p]).map .str),sI i,w8,w9,RS,RT,none,none,none]):=by
 have h3:=mod_lt (x:=g / (64+9*i)) (m:=3) (by decide);obtain⟨rl,_,W9⟩:=kH (zs:=[("open" : Str),"first","last"]) (i:=g / (64+9*i) % 3) (by simp;omega) (by simp;omega);have h4:=mod_lt (x:=g / (2+8*i)) (m:=4) (by decide);obtain⟨WA,T,RU⟩:=mR (ns:=[7,255,3,15]) (i:=g / (2+8*i) % 4) h4.1 h4.2;obtain⟨mt,RV,WB⟩:∃mt:Nat,WA=mt/\mt∈MR:=by
  simp only[mem_cons,not_mem_nil,or_false]at T;rcases T with rfl|rfl|rfl|rfl<;>first|exact⟨7,rfl,by decide⟩|exact⟨255,rfl,by decide⟩|exact⟨3,rfl,by decide⟩|exact⟨15,rfl,by decide⟩
 have Ua:=RU;rw[RV]at Ua;have Ub:=mod_lt (x:=g / (31+i)) (m:=3) (by decide);obtain⟨G,RN,ed⟩:=mR (ns:=[5,5,10]) (i:=g / (31+i) % 3) Ub.1 Ub.2;have RO:0<G:=by simp only[mem_cons,not_mem_nil,or_false]at RN;omega
 obtain⟨of,WC,Uc⟩:∃of,zs[5+i]? = some of/\bK (.lst (zs.map .str)) (.int (5+i))=sS of:=by
  have hl:5+i<zs.length:=by omega
  refine⟨zs[5+i],vU hl,?_⟩;have Mr:((5:Int)+i).toNat<(zs.map D.str).length:=by rw[vI];omega
  rw[DL.An (by omega) Mr,show((5:Int)+i).toNat=5+i by omega,vF,vA,vU hl];rfl
 obtain⟨pn,_,Ud⟩:=kH (zs:=zs) (i:=i) (by omega) (by omega);have WD:(0:Int)<64+9*i/\(64:Int)+9*i<1073741824:=by omega
 have b2:(0:Int)<2+8*i/\(2:Int)+8*i<1073741824:=by omega
 have RW:(0:Int)<512+i/\(512:Int)+i<1073741824:=by omega
 have U:(0:Int)<1024+5*i/\(1024:Int)+5*i<1073741824:=by omega
 have WE:(0:Int)<31+i/\(31:Int)+i<1073741824:=by omega
 let t:Int:=if g / (512+i) % 8=1 then 1 else 0;have ht:0<=t/\t<=1:=by show 0<=(if _ then (1:Int)else 0)/\(if _ then (1:Int)else 0)<=1;split<;>omega
 refine⟨row (t*4*m) ("root" : Str) [.str of,.int mt,.int (g / (1024+5*i) % G),.str rl],row 0 ("named" : Str) [.int 0,.str of,.str pn],pn,sS rl,sI mt,sI (t*4*m),sI (g / (1024+5*i) % G),⟨⟨_,_,_,rfl,.root _ _ _ WB _⟩,decide_eq_true rfl,WC⟩,⟨⟨_,_,_,rfl,.named _ _ _⟩,show decide (("named" : Str) = "root")=false by decide +kernel⟩,?_⟩;refine fB (.str rl) ?_ rfl (fB (.int mt) ?_ rfl (fB (.int (t*4*m)) ?_ rfl (fB (.int (g / (1024+5*i) % G)) ?_ rfl (J9 (ds:=ab) (d:=row (t*4*m) ("root" : Str) [.str of,.int mt,.int (g / (1024+5*i) % G),.str rl]) (b:=false) rfl ?_ rfl (bH (by omega)) (J9 (ds:=ab++[row (t*4*m) ("root" : Str) [.str of,.int mt,.int (g / (1024+5*i) % G),.str rl]]) (d:=row 0 ("named" : Str) [.int 0,.str of,.str pn]) (b:=false) rfl ?_ rfl (bH (by simp;omega)) ((jD (ds:=M.map .str) (d:=.str pn) (b:=false) rfl ?_ rfl (bH (by simp;omega))).trans ?_))))))
 ·exact gH (x:=.lst (([("open" : Str),"first","last"]:LS).map .str)) (y:=.int (g / (64+9*i) % 3)) (b1:=true) (b2:=false) (by simp[sizeLine]) (by simp[WD]) W9
 ·exact gH (x:=.lst (([7,255,3,15]:LI).map .int)) (y:=.int (g / (2+8*i) % 4)) (b1:=true) (b2:=false) (by simp[sizeLine]) (by simp[b2]) Ua
 ·refine bw (.int (t*4)) (.int m) (bw (.int t) (.int 4) ?_ rfl (by simp)) rfl (nS (by omega));refine aH [.bl (decide (g / (512+i) % 8=1))] (bS (bw (.int (g / (512+i) % 8)) (.int 1) (by simp[RW]) rfl (by simp)) rfl) ?_;simp[t]
 ·refine bw (.int (g / (1024+5*i))) (.int G) (by simp[U]) (gH (x:=.lst (([5,5,10]:LI).map .int)) (y:=.int (g / (31+i) % 3)) (b1:=true) (b2:=false) (by simp[sizeLine]) (by simp[WE]) ed) ?_;show(if decide ((0:Int)<G)=true then _ else _)=_;rw[if_pos (decide_eq_true RO)]
 ·refine aH [.int (t*4*m),.tup [.str "root",.str of,.int mt,.int (g / (1024+5*i) % G),.str rl]] (bS rfl (bS (aH [.str "root",.str of,.int mt,.int (g / (1024+5*i) % G),.str rl] (bS rfl (aE (bw (.lst (zs.map .str)) (.int (5+i)) rfl (by simp) Uc) (bS rfl (bS rfl (bS rfl rfl))))) (c6 _ (by simp))) rfl)) (c6 _ (by simp))
 ·refine aH [.int 0,.tup [.str "named",.int 0,.str of,.str pn]] (bS rfl (bS (aH [.str "named",.int 0,.str of,.str pn] (bS rfl (bS rfl (aE (bw (.lst (zs.map .str)) (.int (5+i)) rfl (by simp) Uc) (aE (bw (.lst (zs.map .str)) (.int i) rfl rfl Ud) rfl)))) (c6 _ (by simp))) rfl)) (c6 _ (by simp))
 ·exact bw (.lst (zs.map .str)) (.int i) rfl rfl Ud
 ·simp
noncomputable def lx (ab:LD):LS:=(ab.filter bf).map (ay 0)
def nU (ab:LD)(r:D):lx (ab++[r])=lx ab++if bf r=true then [ay 0 r]else []:=by
 unfold lx;rw[filter_append,uW,filter_cons];split
 ·rename_i h;rfl
 ·rename_i h;rfl
def Ou (c1 m M:Int)(zs g:LS)(ns:LI)(ab:LD)(hz:zs.length=7)(i:Nat)(hi:i<100)(hr:ab.length<=200)(hh:g≠[])(XE:g.length<=200)(v8 v9 O T Pl Pm Pn:OB):
  ∃r1 G PY PZ Qa,(bY r1/\bf r1=false)/\G≠[]/\G.length<=g.length+1/\nI [sL (ns.map .int),sL (zs.map .str),sI m,sI M,sI c1,lT ab,lT (g.map .str),sI i,v8,v9,O,T,Pl,Pm,Pn]
   = some (.nx [sL (ns.map .int),sL (zs.map .str),sI m,sI M,sI c1,lT (ab++[r1]),lT (G.map .str),sI i,v8,v9,O,T,PY,PZ,Qa]):=by
 obtain⟨U,WG,XF⟩:=fL ns (5+i);obtain⟨cb,WH,XG⟩:=fL ns (30+i);obtain⟨cc,WI,XH⟩:=fL ns (60+i);have h3:=mod_lt (x:=U / 7) (m:=3) (by decide);obtain⟨day,Gh⟩:∃day:Int,((i:Int) / 2+U / 7 % 3)*m=day:=⟨_,rfl⟩;obtain⟨k,r,ed,hD,WJ⟩:=IC ab.length cb cc day m zs g hz hh;have WK:=λh=>hD.had3 h;have WL:=λh=>hD.had4 h;have h6:=mod_lt (x:=U / 21) (m:=6) (by decide);obtain⟨tv,WM,WN⟩:=mR (ns:=[0,0,0,0,1,4]) (i:=U / 21 % 6) h6.1 h6.2;have Rz : -1000<=tv/\tv<=1000:=by simp only[mem_cons,not_mem_nil,or_false]at WM;omega
 have O8:bg (.tup (.str k::r))=true:=by simp[hD.flat]
 have e4:∀(ρ:DL.Env),ρ[14]? = some (sT (.str k::r))->dZ 14 0 ρ=sS k:=λρ h=>bw (.tup (.str k::r)) (.int 0) (by simp[h]) rfl (by simp[Gr]);have e1:∀(b:Bool),decide (k = "leave" ∨ k = "named")=b->bp (f2 sk (dZ 14 0) (fA be (ag (fS "leave") (ag (fS "named") aj)))) [sL (ns.map .int),sL (zs.map .str),sI m,sI M,sI c1,lT ab,lT (g.map .str),sI i,v8,v9,O,T,sI U,sI day,sT (.str k::r)]=some b:=λb hb=>cP (bw (.str k) (.tup (([("leave" : Str),"named"]:LS).map .str)) (e4 _ rfl) (by simp[sizeLine]) (by rw[ir,←hb];simp));have at_:∀(j:Nat)(p:Str),r[j]? = some (.str p)->∀ρ:DL.Env,ρ[14]? = some (sT (.str k::r))->f2 bK (ah 14) (fC (.int ((j+1:Nat):Int))) ρ=sS p:=λj p hp ρ hρ=>by
  have hl:j<r.length:=(vV hp).1;refine bw (.tup (.str k::r)) (.int ((j+1:Nat):Int)) (by simp[hρ]) rfl ?_;rw[DL.z9 (by omega) (by simp;omega),show((j+1:Nat):Int).toNat=j+1 by omega,vF];show some ((r[j]?).getD .non,false)=_;rw[hp];rfl
 obtain⟨G,RX,Po,WO⟩:∃G:LS,G≠[]/\G.length<=g.length+1/\∀(h:FS)(rr:Option Res),h [sL (ns.map .int),sL (zs.map .str),sI m,sI M,sI c1,lT ab,lT (G.map .str),sI i,v8,v9,O,T,sI U,sI day,sT (.str k::r)]=rr->az (eI (bp (f2 sk (dZ 14 0) (fA be (ag (fS "leave") (ag (fS "named") aj))))) (jS 6 (dZ 14 3)) bq) (az (eI (bp (f2 eD (dZ 14 0) (fS "chosen"))) (jS 6 (dZ 14 4)) bq) h) [sL (ns.map .int),sL (zs.map .str),sI m,sI M,sI c1,lT ab,lT (g.map .str),sI i,v8,v9,O,T,sI U,sI day,sT (.str k::r)]=rr:=by
  by_cases hx:k = "leave" ∨ k = "named"
  ·obtain⟨p,hp⟩:=WK hx;have OX:k ≠ "chosen":=by rcases hx with rfl|rfl<;>decide +kernel
   refine⟨g++[p],by simp,by simp,λh rr hr=>bZ (ko (e1 true (decide_eq_true hx)) (jD (ds:=g.map .str) (d:=.str p) (b:=false) rfl (at_ 2 p hp _ rfl) rfl (bH (by simp;omega)))) (a9 (bQ (a:=k) (bb:=false) (e4 _ rfl) (decide_eq_false OX)) ?_)⟩;rw[uW]at hr;exact hr
  ·by_cases hy:k = "chosen"
   ·obtain⟨p,hp⟩:=WL hy;refine⟨g++[p],by simp,by simp,λh rr hr=>a9 (e1 false (decide_eq_false hx)) (bZ (ko (bQ (a:=k) (bb:=false) (e4 _ rfl) (decide_eq_true hy)) (jD (ds:=g.map .str) (d:=.str p) (b:=false) rfl (at_ 3 p hp _ rfl) rfl (bH (by simp;omega)))) ?_)⟩;rw[uW]at hr;exact hr
   ·exact⟨g,hh,by omega,λh rr hr=>a9 (e1 false (decide_eq_false hx)) (a9 (bQ (a:=k) (bb:=false) (e4 _ rfl) (decide_eq_false hy)) hr)⟩
 refine⟨row (day+tv*m) k r,G,sI U,sI day,sT (.str k::r),⟨⟨_,_,_,rfl,hD⟩,decide_eq_false WJ⟩,RX,Po,?_⟩;refine fB (.int U) (aH [.lst (ns.map .int),.int ((5+i:Nat):Int)] (by simp) WG) rfl (fB (.int day) ?_ rfl (fB (.tup (.str k::r)) ?_ O8 (WO _ _ ((jD (ds:=ab) (d:=row (day+tv*m) k r) (b:=false) rfl ?_ (by simp[row,hD.flat]) (bH (by omega))).trans ?_))))
 ·refine bw (.int ((i:Int) / 2+U / 7 % 3)) (.int m) (by simp) rfl ?_;rw[←Gh];exact nS (by omega)
 ·refine aH [.int ab.length,.int cb,.int cc,.lst (zs.map .str),.int day,.lst (g.map .str),.int m] (bS (by simp) (aE (aH [.lst (ns.map .int),.int ((30+i:Nat):Int)] (by simp) WH) (aE (aH [.lst (ns.map .int),.int ((60+i:Nat):Int)] (by simp) WI) (bS rfl (bS rfl (bS rfl (bS rfl rfl))))))) ed
 ·refine aH [.int (day+tv*m),.tup (.str k::r)] (bS (bw (.int day) (.int (tv*m)) rfl (bw (.int tv) (.int m) (gH (x:=.lst (([0,0,0,0,1,4]:LI).map .int)) (y:=.int (U / 21 % 6)) (b1:=true) (b2:=false) (by simp[sizeLine]) (by simp) WN) rfl (nS Rz)) rfl) (bS rfl rfl)) (c6 _ (by simp))
 ·simp
def ID (ns:LI)(zs:LS)(hz:zs.length=7)(m:Int):∃ab:LD,ra [.lst (ns.map .int),.lst (zs.map .str),.int m,.int 14]=sT ab/\(∀r∈ab,bY r)/\ab.length<=24/\0<ab.length/\lx ab=(zs.drop 5).take (lx ab).length:=by
 obtain⟨T,e1,h1⟩:=fL ns 1;obtain⟨c2,e2,h2⟩:=fL ns 2;have TX:=mod_lt (x:=T) (m:=2) (by decide);have PX:=mod_lt (x:=c2) (m:=14) (by decide);obtain⟨n1,Wz⟩:∃n1:Nat,1+T % 2=n1:=⟨(1+T % 2).toNat,by omega⟩;obtain⟨n2,WP⟩:∃n2:Nat,3+c2 % 14=n2:=⟨(3+c2 % 14).toNat,by omega⟩;obtain⟨ρ1,f1,M,Pp,u7,u8,u9,RY,RZ,rfl,g1,l1,k1,o1⟩:=jp (tg:=cB 7) (g:=nH) n1 (λi ρ=>∃(ab:LD)(G:LS)(v7 v8 v9 Pj Pk:OB),ρ=[sL (ns.map .int),sL (zs.map .str),sI m,sI 14,sI T,lT ab,lT (G.map .str),v7,v8,v9,Pj,Pk,none,none,none]/\(∀r∈ab,bY r)/\ab.length=2*i/\G.length=i/\lx ab=(zs.drop 5).take i)
  [sL (ns.map .int),sL (zs.map .str),sI m,sI 14,sI T,lT [],lT [],none,none,none,none,none,none,none,none] ⟨[],[],none,none,none,none,none,rfl,by simp,rfl,rfl,rfl⟩ (by
   rintro i ρ hi ⟨ab,G,v7,v8,v9,Pj,Pk,rfl,g,l,k,o⟩;obtain⟨r1,r2,p,w8,w9,RS,RT,q1,q2,e⟩:=Ot T m 14 [] zs G ns ab hz i (by omega) (by omega) (by omega) v8 v9 Pj Pk;refine⟨_,_,rfl,.inl e,ab++[r1]++[r2],G++[p],_,w8,w9,RS,RT,rfl,?_,by simp;omega,by simp[k],by rw[nU,nU,if_pos q1.2.1,if_neg (by rw[q2.2];decide),uQ,o,take_add_one,getElem?_drop,q1.2.2];rfl⟩;intro r U;simp only[mem_append,mem_singleton]at U;rcases U with (U|rfl)|rfl
   ·exact g r U
   ·exact q1.1
   ·exact q2.1)
 obtain⟨ρ2,WQ,O,WR,w7,PY,PZ,Qa,rfl,g2,l2,k2,k3,o2⟩:=jp (tg:=cB 7) (g:=nI) n2 (λi ρ=>∃(ab:LD)(G:LS)(v7 Pl Pm Pn:OB),ρ=[sL (ns.map .int),sL (zs.map .str),sI m,sI 14,sI T,lT ab,lT (G.map .str),v7,u8,u9,RY,RZ,Pl,Pm,Pn]/\(∀r∈ab,bY r)/\ab.length=2*n1+i/\G≠[]/\G.length<=n1+i/\lx ab=(zs.drop 5).take n1)
  [sL (ns.map .int),sL (zs.map .str),sI m,sI 14,sI T,lT M,lT (Pp.map .str),u7,u8,u9,RY,RZ,none,none,none] ⟨M,Pp,u7,none,none,none,rfl,g1,by omega,λe=>by rw[e]at k1;simp at k1;omega,by omega,o1⟩ (by
   rintro i ρ hi ⟨ab,G,v7,Pl,Pm,Pn,rfl,g,l,k,k',o⟩;obtain⟨r1,Sa,PY,PZ,Qa,q1,q2,q3,e⟩:=Ou T m 14 zs G ns ab hz i (by omega) (by omega) k (by omega) u8 u9 RY RZ Pl Pm Pn;refine⟨_,_,rfl,.inl e,ab++[r1],Sa,_,PY,PZ,Qa,rfl,?_,by simp;omega,q2,by omega,by rw[nU,if_neg (by rw[q1.2];decide),uQ,o]⟩;intro r U;simp only[mem_append,mem_singleton]at U;rcases U with U|rfl
   ·exact g r U
   ·exact q1.1)
 refine⟨O,av rfl (fB (.int T) (aH [.lst (ns.map .int),.int ((1:Nat):Int)] (by simp) e1) rfl (cz (ds:=[]) (by simp[sizeLine]) rfl (cz (ds:=[]) (by simp[sizeLine]) rfl (bZ (jq (eE (j:=n1) (b:=false) (by simp;omega) (by omega)) f1) (bZ (jq (eE (j:=n2) (b:=false) ?_ (by omega)) WQ) (ax (by simp))))))),g2,by omega,by omega,?_⟩
 ·refine bw (.int 3) (.int (c2 % 14)) rfl (bw (.int c2) (.int 14) (aH [.lst (ns.map .int),.int ((2:Nat):Int)] (by simp) e2) rfl (by simp)) ?_;rw[←WP];rfl
 ·have hl:(lx O).length<=n1:=by rw[o2,length_take];omega
  rw[o2,length_take];congr 1;rw[length_drop];omega
def ut (a b:Nat):io [.int a,.int b]=sO (decide (a &&& b=b)):=by
 have:Builtin.bitAnd (a:Int) (b:Int)=((a &&& b:Nat):Int):=by simp[Builtin.bitAnd]
 simp[io,qQ,this];omega
def iD (r:D):Nat:=(if kindOf r = "root" then gO 1 r else if kindOf r = "leave" then gO 3 r else gO 2 r).toNat
def fN (a:Int)(k:Str)(aA:LD):kindOf (row a k aA)=k:=rfl
noncomputable def eU:LS:=[("leave" : Str),"paper","like"]
def rN (g:bY r)(h:bf r=true):∃a o rl,∃m:Nat,∃f:Int,r=row a ("root" : Str) [.str o,.int m,.int f,.str rl]/\m∈MR/\iD r=m:=by
 obtain⟨a,k,aA,rfl,d⟩:=g;have hk:k = "root":=of_decide_eq_true h;clear h;cases d with
 |root o rl m hm f=>exact⟨a,o,rl,m,f,rfl,hm,by unfold iD;rw[fN,if_pos rfl];rfl⟩
 |named=>exact cN hk
 |chosen=>exact cN hk
 |heir=>exact cN hk
 |three k G=>rcases G with rfl|rfl|rfl<;>exact cN hk
 |leave=>exact cN hk
 |paper k G=>rcases G with rfl|rfl<;>exact cN hk
 |copy k G=>rcases G with rfl|rfl<;>exact cN hk
def BR (g:bY r)(h:bf r=true):aq [r,.str "matters"]=sI (iD r):=by
 obtain⟨a,o,rl,m,f,rfl,_,e⟩:=rN g h;rw[e];exact bx (i:=1) da rfl
def LX {a:Int}{k:Str}{aA:LD}(d:Dd k aA)(h:k∈eU):iD (row a k aA)∈MS/\(∃i:Nat,oQ gT (.str k) (.str "matters")=sI i/\aA[i]? = some (.int (iD (row a k aA))))/\(D.str k::aA).getD (3+if k = "leave" then 1 else 0) .non=.int (iD (row a k aA))/\(3+if k = "leave" then 1 else 0)<(D.str k::aA).length:=by
 cases d with
 |leave d b p m hm x f=>
  have e:iD (row a ("leave" : Str) [.int d,.str b,.str p,.int m,iB x,.int f])=m:=by unfold iD;rw[fN,if_neg (by decide +kernel),if_pos rfl];rfl
  rw[e];refine⟨hm,⟨3,da,rfl⟩,?_,?_⟩
  ·rw[if_pos rfl];rfl
  ·rw[if_pos rfl];simp
 |paper k hk d b m hm x r hf hp=>
  have hl:k ≠ "leave":=by rcases hk with rfl|rfl<;>decide +kernel
  have G:k ≠ "root":=by rcases hk with rfl|rfl<;>decide +kernel
  have e:iD (row a k (.int d::.str b::.int m::iB x::r))=m:=by unfold iD;rw[fN,if_neg G,if_neg hl];rfl
  rw[e];refine⟨hm,⟨2,by rcases hk with rfl|rfl<;>exact da,rfl⟩,?_,?_⟩
  ·rw[if_neg hl];rfl
  ·rw[if_neg hl];simp
 |root=>exact cN h
 |named=>exact cN h
 |chosen=>exact cN h
 |heir=>exact cN h
 |three k g=>rcases g with rfl|rfl|rfl<;>exact cN h
 |copy k g=>rcases g with rfl|rfl<;>exact cN h
def wD (g:bY r)(h:kindOf r∈eU):aq [r,.str "matters"]=sI (iD r):=by
 obtain⟨a,k,aA,rfl,d⟩:=g;obtain⟨_,⟨i,h1,h2⟩,_⟩:=LX (a:=a) d h;exact bx h1 h2
noncomputable def bC:LS:=[("leave" : Str),"paper","like","copy"]
def jK (h:k∈bC∨k = "call"):dQ k=true:=by
 rw[ri];refine decide_eq_true ?_;rcases h with h|rfl
 ·have:∀k∈bC,k∈yH:=by decide +kernel
  exact this k h
 ·decide +kernel
def IE {k:Str}{aA:LD}(d:Dd k aA)(h:dQ k=true):∃(dd:Int)(b:Str)(r:LD),aA=.int dd::.str b::r:=d.cd.deed.slg h
def BS (g:bY r)(h:dQ (kindOf r)=true):aq [r,.str "by"]=sS (cQ r):=by
 obtain⟨a,k,aA,rfl,d⟩:=g;obtain⟨dd,b,q,rfl⟩:=IE d h;exact bx (i:=1) (Fo h) rfl
noncomputable def bM (K:KL):LD:=(K.filter λx=>bf x.1).map (·.1)
theorem yT:∀(l:List (dD×D))(a:LK×LD),(a.1++l.map (·.1)).Nodup->l.foldl qu a=(a.1++l.map (·.1),a.2++l.map (·.2))
 |[],a,_=>by simp
 |p::l,a,h=>by
  have hn:p.1∉a.1:=by
   rw[uY,nodup_append]at h;exact λz=>h.2.2 _ z _ mX rfl
  have e:qu a p=(a.1++[p.1],a.2++[p.2]):=by unfold qu cV cW;rw[if_neg hn,if_neg hn]
  rw[foldl_cons,e,yT l _ (by rw[append_assoc];exact h)];simp
section
variable {K:KL}(hn:((bM K).map (ay 0)).Nodup)
include hn
theorem rO:bT (mN K)=((bM K).map λv=>(.inr (ay 0 v):dD),bM K):=by
 have e:mN K=(bM K).map λv=>((.inr (ay 0 v):dD),v):=by unfold mN bM;rw[uP];rfl
 have g:((bM K).map λv=>(.inr (ay 0 v):dD)).Nodup:=by
  refine pairwise_map.mpr ((pairwise_map.mp hn).imp λh z=>h (Sum.inr.inj z))
 rw[e];unfold bT;rw[yT _ _ (by rw[uP];exact g),uP,uP];simp only[nil_append];congr 1;exact map_id _
end
noncomputable def IF (j:Nat):D->Int×OI
 |.tup [_,.tup (_::aA)]=>match aA[j]? with
  |some (.tup [.int s,.int u])=>(s,some u)
  |some (.tup [.int s,.non])=>(s,none)
  |_=>(0,none)
 |_=>(0,none)
def wE {h:Int}{k:Str}{aA:LD}{j:Nat}{x:Int×OI}(e:aA[j]? = some (iB x)):IF j (row h k aA)=x:=by
 unfold IF row;simp only[e];obtain⟨s,u⟩:=x;cases u<;>rfl
def gB (r:D):Int×OI:=if kindOf r = "leave" then IF 4 r else IF 3 r
def iA (r:D):Int:=if kindOf r = "root" then gO 2 r else gO 5 r
def mS (r:D):Bool:=decide (kindOf r = "leave")
def oG {r:D}(g:bY r)(h:kindOf r = "leave"):∃a d b p,∃m:Nat,∃x f,r=row a ("leave" : Str) [.int d,.str b,.str p,.int m,iB x,.int f]/\m∈MS/\iD r=m/\gB r=x/\iA r=f:=by
 obtain⟨a,k,aA,rfl,d⟩:=g;have hk:k = "leave":=h;clear h;cases d with
 |leave d b p m hm x f=>exact⟨a,d,b,p,m,x,f,rfl,hm,by unfold iD;rw[fN,if_neg (by decide +kernel),if_pos rfl];rfl,by unfold gB;rw[fN,if_pos rfl];exact wE rfl,by unfold iA;rw[fN,if_neg (by decide +kernel)];rfl⟩
 |root=>exact cN hk
 |named=>exact cN hk
 |chosen=>exact cN hk
 |heir=>exact cN hk
 |three k G=>rcases G with rfl|rfl|rfl<;>exact cN hk
 |paper k G=>rcases G with rfl|rfl<;>exact cN hk
 |copy k G=>rcases G with rfl|rfl<;>exact cN hk
def IG {a:Int}{k:Str}{aA:LD}(d:Dd k aA)(h:k∈eU):(∃i:Nat,oQ gT (.str k) (.str "stretch")=sI i/\aA[i]? = some (iB (gB (row a k aA))))/\(D.str k::aA).getD (4+if k = "leave" then 1 else 0) .non=iB (gB (row a k aA))/\(4+if k = "leave" then 1 else 0)<(D.str k::aA).length:=by
 cases d with
 |leave d b p m hm x f=>
  have e:gB (row a ("leave" : Str) [.int d,.str b,.str p,.int m,iB x,.int f])=x:=by unfold gB;rw[fN,if_pos rfl];exact wE rfl
  rw[e,if_pos rfl];exact⟨⟨4,da,rfl⟩,rfl,by simp⟩
 |paper k hk d b m hm x r hf hp=>
  have hl:k ≠ "leave":=by rcases hk with rfl|rfl<;>decide +kernel
  have e:gB (row a k (.int d::.str b::.int m::iB x::r))=x:=by unfold gB;rw[fN,if_neg hl];exact wE rfl
  rw[e,if_neg hl];exact⟨⟨3,by rcases hk with rfl|rfl<;>exact da,rfl⟩,rfl,by simp⟩
 |root=>exact cN h
 |named=>exact cN h
 |chosen=>exact cN h
 |heir=>exact cN h
 |three k g=>rcases g with rfl|rfl|rfl<;>exact cN h
 |copy k g=>rcases g with rfl|rfl<;>exact cN h
def BU (g:bY r)(h:kindOf r∈eU):aq [r,.str "stretch"]=some (iB (gB r),false):=by
 obtain⟨a,k,aA,rfl,d⟩:=g;obtain⟨⟨i,h1,h2⟩,_⟩:=IG (a:=a) d h;exact bx h1 h2
def wF (h:kindOf r = "leave"):kindOf r∈eU:=by rw[h];decide +kernel
def JL (g:bY r)(h:bf r=true∨kindOf r = "leave"):aq [r,.str "further"]=sI (iA r):=by
 rcases h with h|h
 ·obtain⟨a,o,rl,m,f,rfl,_,_⟩:=rN g h;rw[show iA (row a ("root" : Str) [.str o,.int m,.int f,.str rl])=f by unfold iA;rw[fN,if_pos rfl];rfl];exact bx (i:=2) da rfl
 ·obtain⟨a,d,b,p,m,x,f,e,_,_,_,G⟩:=oG g h;rw[G,e];exact bx (i:=5) da rfl
def rP (r v:D):Bool:=decide (iD v &&& iD r=iD r) && !(mS r && decide (iA v<=iA r))
def nV (r v:D):D:=if decide (iD v &&& iD r=iD r)=true then (if(mS r && decide (iA v<=iA r))=true then .str "further" else .non)else .str "matters"
def yU (M:bY r)(O:bY v)(kr:kindOf r∈eU)(kv:bf v=true∨kindOf v = "leave"):∃d,iH [r,v]=some (d,false)/\DB d .non=sO (rP r v)/\d=nV r v:=by
 have T:aq [v,.str "matters"]=sI (iD v):=kv.elim (BR O) λh=>wD O (wF h);have U:bp (fA io (ag (fA aq (fV 1 (ag (fS "matters") aj))) (ag (fA aq (fV 0 (ag (fS "matters") aj))) aj))) [some (r,false),some (v,false)]=some (decide (iD v &&& iD r=iD r)):=cP (aH [.int (iD v),.int (iD r)] (aE (aH [v,.str "matters"] rfl T) (aE (aH [r,.str "matters"] rfl (wD M kr)) rfl)) (ut _ _));have t2:bp (f2 eD (fA aK (fV 0 aj)) (fS "leave")) [some (r,false),some (v,false)]=some (mS r):=bQ (a:=kindOf r) (bb:=false) (aH [r] rfl (iY M.c)) rfl;have t3:mS r=true->bp (f2 Qw (fA aq (fV 0 (ag (fS "further") aj))) (fA aq (fV 1 (ag (fS "further") aj)))) [some (r,false),some (v,false)]=some (decide (iA v<=iA r)):=λh=>cP (bw (.int (iA r)) (.int (iA v)) (aH [r,.str "further"] rfl (JL M (.inr (of_decide_eq_true h)))) (aH [v,.str "further"] rfl (JL O kv)) rfl);have t4:=dz t2 t3;unfold rP;cases g:decide (iD v &&& iD r=iD r) with
 |false=>exact⟨.str "matters",av rfl (bE (cx (p:=false) (U.trans (by rw[g]))) (ax rfl)),rfl,by simp only[nV,g];rfl⟩
 |true=>
  cases G:(mS r && decide (iA v<=iA r)) with
  |true=>exact⟨.str "further",av rfl (a9 (cx (p:=true) (U.trans (by rw[g]))) (bE (t4.trans (by rw[G])) (ax rfl))),rfl,by simp only[nV,g,G];rfl⟩
  |false=>exact⟨.non,av rfl (a9 (cx (p:=true) (U.trans (by rw[g]))) (a9 (t4.trans (by rw[G])) (ax rfl))),rfl,by simp only[nV,g,G];rfl⟩
def rQ (h:k∈eU):k∈bC:=by
 have:∀k∈eU,k∈bC:=by decide +kernel
 exact this k h
def iL (h:kindOf r∈eU):bf r=false:=by
 have:∀k∈eU,decide (k = "root")=false:=by decide +kernel
 exact this _ h
def rR (g:bY r)(h:bf r=false):aP [r]=sI (aF r):=by
 have:=rj g.c;unfold sD at this;rwa [h,if_neg (by decide)]at this
def sG (cs:List Cl)(r v:D):Bool:=i6 cs (ay 0 v) (ay 3 v) (cQ r) (aF r) && rP r v
def F5 (cs:List Cl)(r v:D):D:=if i6 cs (ay 0 v) (ay 3 v) (cQ r) (aF r)=true then nV r v else .str "holder"
def IH (cs:List Cl)(G:cs.length<=60)(M:bY r)(T:bY v)(O:kindOf r∈eU)(hv:bf v=true):∃d,gV [.lst (cs.map aT),r,v]=some (d,false)/\DB d .non=sO (sG cs r v)/\d=F5 cs r v:=by
 obtain⟨d,e1,e2,e3⟩:=yU M T O (.inl hv);have U:bp (fA cE (fV 0 (fV 2 (ag (fA aq (fV 1 (ag (fS "by") aj))) (ag (fA aP (fV 1 aj)) aj))))) [sL (cs.map aT),some (r,false),some (v,false)]=some (i6 cs (ay 0 v) (ay 3 v) (cQ r) (aF r)):=by
  refine cP (aH [.lst (cs.map aT),v,.str (cQ r),.int (aF r)] (bS rfl (bS rfl (aE (aH [r,.str "by"] rfl (BS M (jK (.inl (rQ O))))) (aE (aH [r] rfl (rR M (iL O))) rfl)))) ?_);obtain⟨a,o,rl,m,f,rfl,_,_⟩:=rN T hv;exact w4 cs G _ _
 unfold sG;cases g:i6 cs (ay 0 v) (ay 3 v) (cQ r) (aF r) with
 |false=>exact⟨.str "holder",av rfl (bE (cx (p:=false) (U.trans (by rw[g]))) (ax rfl)),rfl,by simp only[F5,g];rfl⟩
 |true=>exact⟨d,av rfl (a9 (cx (p:=true) (U.trans (by rw[g]))) (ax (aH [r,v] rfl e1))),e2,by rw[e3];simp only[F5,g];rfl⟩
def F6 (cs:List Cl)(r v:D):Int:=match jN cs (ay 0 v) (ay 3 v) (aF r) with
 |.tup [_,_,.int n]=>n
 |_=>0
def F7 (h:i6 cs o rl p day=true):∃n:Int,jN cs o rl day=.tup [.str "one",.str p,.int n]:=by
 unfold i6 jN at h;unfold jN;generalize MF cs o day=al at h ⊢;cases al with
 |nil=>
  have h:cI (.tup [.str "none"]) (.tup [.str "one",.str p])=true:=h;simp[eC]at h
 |cons b r=>
  rw[oF]at h ⊢;split at h
  ·have h:cI (.tup [.str "parted",.lst ((lO (b::r)).map .str)]) (.tup [.str "one",.str p])=true:=h;simp[eC]at h
  ·rename_i hn;rw[if_neg hn];have h:cI (.tup [.str "one",.str (iz rl b r).p]) (.tup [.str "one",.str p])=true:=h;have h:(iz rl b r).p=p:=by simpa [eC]using h
   exact⟨_,by rw[h]⟩
def II (h:i6 cs (ay 0 v) (ay 3 v) (cQ r) (aF r)=true):jN cs (ay 0 v) (ay 3 v) (aF r)=.tup [.str "one",.str (cQ r),.int (F6 cs r v)]:=by
 obtain⟨n,e⟩:=F7 h;unfold F6;rw[e]
def LY (cs:List Cl)(r v:D):D:=.tup [.str "office",.str (ay 0 v),.int (F6 cs r v)]
def rS (g:∀r∈ab,bY r)(hv:v∈bM (ak ab aa)):bY v/\bf v=true:=by
 obtain⟨x,hx,rfl⟩:=vO hv;obtain⟨h1,h2⟩:=vN hx;exact⟨g _ (vL (b7 h1)),h2⟩
def F8 (hl:ab.length<=60)(aa:Int):(bM (ak ab aa)).length<=60:=by
 unfold bM;rw[vI];exact vR (vM _ _) (vR (cu ab aa) hl)
def Dv {ab:LD}(g:∀r∈ab,bY r)(hl:ab.length<=60)(aa:Int)(hn:((bM (ak ab aa)).map (ay 0)).Nodup)(cs:List Cl)(M:cs.length<=60){O:Nat}{r:D}(U:ab[O]? = some r)(kr:kindOf r∈eU):
  iq [.tup ab,.int aa,.lst (cs.map aT),.int O]=lT (((bM (ak ab aa)).filter (sG cs r)).map (LY cs r)):=by
 have gC:gA ab:=⟨hl,λr U=>(g r U).c⟩;have gr:=g r (vL U);have WS:=F8 hl aa;have h1:=gz (fi:=qz (fA gl (fV 0 (fV 1 aj)))) (nT:=1) (cap:=[2,4]) (tg:=cB 0) (c:=bp (f2 DB (fA gV (fV 1 (fV 2 (fV 0 aj)))) (fC .non))) (fe:=ah 0)
  (ρ:=[sT ab,sI aa,sL (cs.map aT),sI O,some (r,false),none]) (bM (ak ab aa)) id (sG cs r) id
  (by show(fA gl _ _).bind _=_;rw[aH [.tup ab,.int aa] rfl (rE gC aa),rO hn];simp) (by omega) λv hv=>by
   obtain⟨gv,G⟩:=rS g hv;obtain⟨d,e1,e2,_⟩:=IH cs M gr gv kr G;exact⟨[some (v,false),sL (cs.map aT),some (r,false)],rfl,cP (bw d .non (aH [.lst (cs.map aT),r,v] rfl e1) rfl e2),λ_=>⟨false,rfl⟩⟩
 rw[map_id]at h1;have My:b8 ((bM (ak ab aa)).filter (sG cs r))=true:=bW λv hv=>(rS g (vN hv).1).1.flat;refine av rfl (fB r (bw (.tup ab) (.int O) rfl rfl (by simp[cy U])) gr.flat (cz h1 My (ax ?_)));refine lr (fi:=bV (ah 5)) (nT:=1) (cap:=[2,4]) (tg:=cB 0) (fe:=fA be (ag (fS "office") (ag (fA aq (fV 0 (ag (fS "office") aj))) (ag (f2 bK (fA dN (fV 1 (fV 0 (ag (fA aP (fV 2 aj)) aj)))) (fI 2)) aj))))
  (ρ:=[sT ab,sI aa,sL (cs.map aT),sI O,some (r,false),lT ((bM (ak ab aa)).filter (sG cs r))]) ((bM (ak ab aa)).filter (sG cs r)) id (LY cs r) (by simp) (vR (vM _ _) (by omega)) λv hv=>?_
 obtain⟨RE,WT⟩:=vN hv;obtain⟨gv,G⟩:=rS g RE;have T:(i6 cs (ay 0 v) (ay 3 v) (cQ r) (aF r) && rP r v)=true:=WT;rw[vC]at T;have hh:=II T.1;refine⟨[some (v,false),sL (cs.map aT),some (r,false)],rfl,false,?_⟩;obtain⟨a,o,rl,m,f,rfl,_,_⟩:=rN gv G;refine aH [.str "office",.str o,.int (F6 cs r _)] (bS rfl (aE (aH [row a ("root" : Str) [.str o,.int m,.int f,.str rl],.str "office"] rfl kG) (bS (bw (jN cs o rl (aF r)) (.int 2) (aH [.lst (cs.map aT),row a ("root" : Str) [.str o,.int m,.int f,.str rl],.int (aF r)] (bS rfl (bS rfl (aE (aH [r] rfl (rR gr (iL kr))) rfl))) (mM cs M _)) rfl ?_) rfl))) (c6 _ (by simp));have hh:jN cs o rl (aF r)=_:=hh;rw[hh];simp[S3]
noncomputable def BV (day:Int)(x:Int×OI):Bool:=decide (x.1<=day) && (match x.2 with|none=>true|some u=>decide (day<u))
noncomputable def Ov:OI->OI->Bool
 |_,none=>true
 |none,some _=>false
 |some x,some y=>decide (x<=y)
def IJ (a b:OI):iW [uD a,uD b]=sO (Ov a b):=by
 cases b with
 |none=>exact av rfl (bE (cP (by simp[uD])) (ax (by cases a<;>rfl)))
 |some y=>
  refine av rfl (a9 (cP (by simp[uD])) (ax ?_));cases a with
  |none=>exact dJ (p:=false) (q:=false) (b1:=false) (by simp[uD]) (by simp)
  |some x=>exact dJ (p:=true) (q:=decide (x<=y)) (b1:=false) (by simp[uD]) λ_=>by simp[uD]
def F9 (a b:Int×OI):Bool:=decide (b.1<=a.1) && Ov a.2 b.2
def LZ (a b:Int×OI):iI [iB a,iB b]=sO (F9 a b) :=
 av rfl (ax (dJ (b1:=false) (by simp[iB,Gr]) λ_=>aH [uD a.2,uD b.2] (bS (by simp[iB,Gs]) (bS (by simp[iB,Gs]) rfl)) (IJ _ _)))
def JM {ab:LD}{i:Nat}{r:D}(G:ab[i]? = some r)(g:bY r)(h:bf r=false):fj [.tup ab,.int i]=sT [.int (aF r),.int i] :=
 av rfl (ax (aH [.int (aF r),.int i] (bS (aH [r] (by simp[cy G]) (rR g h)) rfl) (by simp[sizeLine])))
def QH (a b c d:Int):Km (.tup [.int a,.int b]) (.tup [.int c,.int d])=sO (decide (a<c∨(a=c/\b<d))):=by
 show(bo [.i a,.i b] [.i c,.i d]).map _=_;rw[LR];rfl
def yV {ab:LD}{i j:Nat}{x y:D}(hx:ab[i]? = some x)(hy:ab[j]? = some y)(g:bY x)(G:bY y)(nx:bf x=false)(M:bf y=false):fZ [.tup ab,.int i,.int j]=sO (dS (x,i) (y,j)) :=
 av rfl (ax (bw (.tup [.int (aF x),.int i]) (.tup [.int (aF y),.int j]) (aH [.tup ab,.int i] rfl (JM hx g nx)) (aH [.tup ab,.int j] rfl (JM hy G M)) (QH _ _ _ _)))
def yW (r:D)(g:Nat)(x:D×Nat):Bool:=dS x (r,g) && ((BV (aF r) (gB x.1) && F9 (gB r) (gB x.1)) && rP r x.1)
def BW (r:D)(g:Nat)(x:D×Nat):D:=if dS x (r,g)=true then (if(BV (aF r) (gB x.1) && F9 (gB r) (gB x.1))=true then nV r x.1 else .str "days")else .str "order"
def IK {ab:LD}{G g:Nat}{r l:D}(hr:ab[G]? = some r)(hl:ab[g]? = some l)(O:bY r)(U:bY l)(kr:kindOf r∈eU)(kl:kindOf l = "leave"):∃d,iJ [.tup ab,.int G,.int g]=some (d,false)/\DB d .non=sO (yW r G (l,g))/\d=BW r G (l,g):=by
 have nr:=iL kr;have nl:=iL (wF kl);obtain⟨d,e1,e2,e3⟩:=yU O U kr (.inr kl);let E:DL.Env:=[sT ab,sI G,sI g,some (r,false),some (iB (gB l),false)];have al:∀ρ:DL.Env,ρ[0]? = some (sT ab)->ρ[2]? = some (sI g)->f2 bK (ah 0) (ah 2) ρ=some (l,false):=λρ h0 h2=>bw (.tup ab) (.int g) (by simp[h0]) (by simp[h2]) (by simp[cy hl]);have t1:bp (fA fZ (fV 0 (fV 2 (fV 1 aj)))) E=some (dS (l,g) (r,G)):=cP (aH [.tup ab,.int g,.int G] rfl (yV hl hr U O nl nr));have t2:bp (fA jr (ag (fA aP (fV 3 aj)) (fV 4 aj))) E=some (BV (aF r) (gB l)):=cP (aH [.int (aF r),iB (gB l)] (aE (aH [r] rfl (rR O nr)) (bS rfl rfl)) (BI _ _ _));have t3:bp (fA iI (ag (fA aq (fV 3 (ag (fS "stretch") aj))) (fV 4 aj))) E=some (F9 (gB r) (gB l)):=cP (aH [iB (gB r),iB (gB l)] (aE (aH [r,.str "stretch"] rfl (BU O kr)) (bS rfl rfl)) (LZ _ _));have t4:=cL (cx t2) λ_=>cx t3;have go:∀(h:FS)(res:Option Res),h E=res->az (aO 3 (f2 bK (ah 0) (ah 1))) (az (aO 4 (fA aq (ag (f2 bK (ah 0) (ah 2)) (ag (fS "stretch") aj)))) h) [sT ab,sI G,sI g,none,none]=res:=λh res k=>
  fB r (bw (.tup ab) (.int G) rfl rfl (by simp[cy hr])) O.flat (fB (iB (gB l)) (aH [l,.str "stretch"] (aE (al _ rfl rfl) rfl) (BU U (wF kl))) (jy _) k)
 unfold yW;cases M:dS (l,g) (r,G) with
 |false=>exact⟨.str "order",av rfl (go _ _ (bE (cx (p:=false) (t1.trans (by rw[M]))) (ax rfl))),rfl,by simp only[BW,M];rfl⟩
 |true=>
  cases T:(BV (aF r) (gB l) && F9 (gB r) (gB l)) with
  |false=>exact⟨.str "days",av rfl (go _ _ (a9 (cx (p:=true) (t1.trans (by rw[M]))) (bE (t4.trans (by rw[←Bool.not_and,T];rfl)) (ax rfl)))),rfl,by simp only[BW,M,T];rfl⟩
  |true=>exact⟨d,av rfl (go _ _ (a9 (cx (p:=true) (t1.trans (by rw[M]))) (a9 (t4.trans (by rw[←Bool.not_and,T];rfl)) (ax (aH [r,l] (bS rfl (aE (al _ rfl rfl) rfl)) e1))))),e2,by rw[e3];simp only[BW,M,T];rfl⟩
def lQ {ab:LD}{aa:Int}{i:Nat}{r:D}(M:ab[i]? = some r)(g:bY r):fY [.tup ab,.int aa,.int i]=sO (decide (ba r<=aa) && mS r):=by
 have G:c9 [.tup ab,.int aa,.int i]=sO (decide (ba r<=aa)):=by
  obtain⟨a,k,aA,rfl,d⟩:=g;exact kF M aa
 exact av rfl (ax (dJ (aH [.tup ab,.int aa,.int i] rfl G) λ_=>bw (.str (kindOf r)) (.str "leave") (aH [r] (bS (bw (.tup ab) (.int i) rfl rfl (by simp[cy M])) rfl) (iY g.c)) rfl (by simp[mS])))
noncomputable def rT (K:KL)(p:Str):KL:=(K.filter λx=>mS x.1).filter λx=>decide (ay 2 x.1=p)
def yX (g:∀r∈ab,bY r)(h:x∈rT (ak ab aa) p):ab[x.2]? = some x.1/\bY x.1/\kindOf x.1 = "leave":=by
 obtain⟨h1,_⟩:=vN h;obtain⟨h2,h3⟩:=vN h1;exact⟨b7 h2,g _ (vL (b7 h2)),of_decide_eq_true h3⟩
def Dw {ab:LD}(g:∀r∈ab,bY r)(hl:ab.length<=60)(aa:Int)(p:Str):k8 [.tup ab,.int aa,.str p]=lT ((rT (ak ab aa) p).map λx=>.int x.2):=by
 have M:=cu ab aa;have h1:=gz (fi:=bV (fA cA (fV 0 (fV 1 aj)))) (nT:=1) (cap:=[0,1]) (tg:=cB 0) (c:=bp (fA fY (fV 1 (fV 2 (fV 0 aj))))) (fe:=ah 0)
  (ρ:=[sT ab,sI aa,sS p,none]) (ak ab aa) (λx=>.int x.2) (λx=>mS x.1) (λx=>.int x.2)
  (by show(fA cA _ _).bind _=_;rw[aH [.tup ab,.int aa] rfl (kE ab (λr O=>(g r O).c.rp) (by omega) aa)];rfl) (by omega) λx hx=>by
   have hk:decide (ba x.1<=aa)=true:=(vN hx).2;have:=lQ (aa:=aa) (b7 hx) (g _ (vL (b7 hx)));rw[hk,Bool.true_and]at this;exact⟨_,rfl,cP (aH [.tup ab,.int aa,.int x.2] rfl this),λ_=>⟨false,rfl⟩⟩
 have G:b8 (((ak ab aa).filter λx=>mS x.1).map λx=>D.int x.2)=true:=bW λd hd=>by obtain⟨x,_,rfl⟩:=vO hd;rfl
 refine av rfl (cz h1 G (ax ?_));refine gz (fi:=bV (ah 3)) (nT:=1) (cap:=[2,0]) (tg:=cB 0) (c:=bp (f2 eD (fA aq (ag (f2 bK (ah 2) (ah 0)) (ag (fS "person") aj))) (ah 1))) (fe:=ah 0)
  (ρ:=[sT ab,sI aa,sS p,lT (((ak ab aa).filter λx=>mS x.1).map λx=>.int x.2)]) ((ak ab aa).filter λx=>mS x.1) (λx=>.int x.2) (λx=>decide (ay 2 x.1=p)) (λx=>.int x.2) (by simp) (vR (vM _ _) (by omega)) λx hx=>?_
 obtain⟨h2,h3⟩:=vN hx;obtain⟨a,d,b,q,m,st,f,e,_⟩:=oG (g _ (vL (b7 h2))) (of_decide_eq_true h3);refine⟨[sI x.2,sS p,sT ab],rfl,cP (bw (.str (ay 2 x.1)) (.str p) (aH [x.1,.str "person"] (bS (bw (.tup ab) (.int x.2) rfl rfl (by simp[cy (b7 h2)])) rfl) ?_) rfl (by simp)),λ_=>⟨false,rfl⟩⟩;rw[e];exact bx (i:=2) da rfl
def Dx {ab:LD}(g:∀r∈ab,bY r)(hl:ab.length<=60)(aa:Int){G:Nat}{r:D}(M:ab[G]? = some r)(T:kindOf r∈eU):
  iX [.tup ab,.int aa,.int G]=lT (((rT (ak ab aa) (cQ r)).filter (yW r G)).map λx=>.tup [.str "leave",.int x.2]):=by
 have U:=g r (vL M);have PQ:=cu ab aa;have RH:(rT (ak ab aa) (cQ r)).length<=60:=vR (vM _ _) (vR (vM _ _) (by omega));have O:b8 ((rT (ak ab aa) (cQ r)).map λx=>D.int x.2)=true:=bW λd hd=>by obtain⟨x,_,rfl⟩:=vO hd;rfl
 refine av rfl (cz (ds:=(rT (ak ab aa) (cQ r)).map λx=>.int x.2) (aH [.tup ab,.int aa,.str (cQ r)] (bS rfl (bS rfl (aE (aH [r,.str "by"] (bS (bw (.tup ab) (.int G) rfl rfl (by simp[cy M])) rfl) (BS U (jK (.inl (rQ T))))) rfl))) (Dw g hl aa _)) O (ax ?_));refine gz (fi:=bV (ah 3)) (nT:=1) (cap:=[0,2]) (tg:=cB 0) (c:=bp (f2 DB (fA iJ (fV 1 (fV 2 (fV 0 aj)))) (fC .non))) (fe:=fA be (ag (fS "leave") (fV 0 aj)))
  (ρ:=[sT ab,sI aa,sI G,lT ((rT (ak ab aa) (cQ r)).map λx=>.int x.2)]) (rT (ak ab aa) (cQ r)) (λx=>.int x.2) (yW r G) (λx=>.tup [.str "leave",.int x.2]) (by simp) (by omega) λx hx=>?_
 obtain⟨h1,h2,h3⟩:=yX g hx;obtain⟨d,e1,e2,_⟩:=IK M h1 U h2 T h3;exact⟨[sI x.2,sT ab,sI G],rfl,cP (bw d .non (aH [.tup ab,.int G,.int x.2] rfl e1) rfl e2),λ_=>⟨false,aH [.str "leave",.int x.2] rfl (c6 _ (by simp))⟩⟩
abbrev Bs:=Option Str×Int
noncomputable def zu:Bs->D
 | (some o,n)=>.tup [.str "office",.str o,.int n]
 | (none,n)=>.tup [.str "leave",.int n]
noncomputable def yY:Bs->List At
 | (some o,n)=>[.i n,.s ("office" : Str),.s o,.i n]
 | (none,n)=>[.i n,.s ("leave" : Str),.i n]
def FC (b:Bs):bg (zu b)=true:=by rcases b with⟨_|o,n⟩<;>rfl
def IL (b:Bs):bK (zu b) (.int (-1))=sI b.2:=by rcases b with⟨_|o,n⟩<;>rfl
def FD (a b:Bs):(bo (yY a) (yY b)).isSome=true:=by
 have G:("office" : Str) ≠ "leave":=by decide +kernel
 rcases a with⟨_|o,n⟩<;>rcases b with⟨_|o',g⟩
 ·show(bo [.i n,.s ("leave" : Str),.i n] [.i g,.s ("leave" : Str),.i g]).isSome=true;rw[bo];split
  ·rw[bo,if_pos rfl,bo];split
   ·rw[bo];rfl
   ·rfl
  ·rfl
 ·show(bo [.i n,.s ("leave" : Str),.i n] [.i g,.s ("office" : Str),.s o',.i g]).isSome=true;rw[bo];split
  ·rw[bo,if_neg (Ne.symm G)];rfl
  ·rfl
 ·show(bo [.i n,.s ("office" : Str),.s o,.i n] [.i g,.s ("leave" : Str),.i g]).isSome=true;rw[bo];split
  ·rw[bo,if_neg G];rfl
  ·rfl
 ·show(bo [.i n,.s ("office" : Str),.s o,.i n] [.i g,.s ("office" : Str),.s o',.i g]).isSome=true;rw[bo];split
  ·rw[bo,if_pos rfl,bo];split
   ·rw[bo];split
    ·rw[bo];rfl
    ·rfl
   ·rfl
  ·rfl
def IM (h:yY a=yY b):a=b:=by
 rcases a with⟨_|o,n⟩<;>rcases b with⟨_|o',g⟩<;>simp[yY]at h
 ·rw[h]
 ·rw[h.1,h.2.1]
def BX (l:List Bs):dc (l.map yY)=true:=by
 unfold dc;simp[all_eq_true,FD]
def FF (e:c7 (yY a)=c7 (yY b)):a=b:=IM (kP (BX [a,b]) (by simp) (by simp) e)
def U9 (cs:List Cl)(r v:D):Bs:=(some (ay 0 v),F6 cs r v)
def wG (K:KL)(cs:List Cl)(r:D)(g:Nat):List Bs:=((bM K).filter (sG cs r)).map (U9 cs r)++((rT K (cQ r)).filter (yW r g)).map λx=>(none,(x.2:Int))
def IN (K:KL)(cs:List Cl)(r:D)(g:Nat):List Bs:=eP (λb=>c7 (yY b)) (wG K cs r g)
def Dy (hn:((bM (ak ab aa)).map (ay 0)).Nodup)(cs:List Cl)(r:D)(g:Nat):(wG (ak ab aa) cs r g).Nodup:=by
 unfold wG;rw[nodup_append];refine⟨?_,?_,?_⟩
 ·exact pairwise_map.mpr ((List.Pairwise.sublist filter_sublist (pairwise_map.mp hn)).imp λh e=>h (vK (Prod.mk.inj e).1))
 ·refine pairwise_map.mpr ((List.Pairwise.sublist (filter_sublist.trans (filter_sublist.trans filter_sublist)) (pairwise_map.mp (dj ab aa))).imp λh e=>h ?_);have:=(Prod.mk.inj e).2;omega
 ·intro a ha b hb e;obtain⟨v,_,rfl⟩:=vO ha;obtain⟨x,_,rfl⟩:=vO hb;cases (Prod.mk.inj e).1
theorem uu {α:Type}{g:α->D}{h:α->List At}:∀(l:List α),(∀x∈l,LC (g x)=some (h x))->jn (l.map g)=some (l.map h)
 |[],_=>rfl
 |x::l,k=>by
  rw[uY,jn,k x mX,vJ,uu l λy hy=>k y (mZ _ hy)];rfl
def BY (hl:ab.length<=30)(aa:Int)(cs:List Cl)(r:D)(g:Nat):(wG (ak ab aa) cs r g).length<=60:=by
 have h1:((bM (ak ab aa)).filter (sG cs r)).length<=30:=by
  refine vR (vM _ _) ?_;unfold bM;rw[vI];exact vR (vM _ _) (vR (cu ab aa) hl)
 have h2:((rT (ak ab aa) (cQ r)).filter (yW r g)).length<=30:=vR (vM _ _) (vR (vM _ _) (vR (vM _ _) (vR (cu ab aa) hl)));unfold wG;rw[uZ,vI,vI];omega
def FH {f:FE}{ρ:DL.Env}{b:Bool}(l:List Bs)(hl:l.length<=60)(hn:l.Nodup)(e:f ρ=some (.lst (l.map zu),b)):Ai f (qk [] (fA be (ag (f2 bK (ah 0) (f1 nw (fI 1))) (fV 0 aj)))) ρ=lT ((eP (λb=>c7 (yY b)) l).map zu):=by
 have hm:jl (qk [] (fA be (ag (f2 bK (ah 0) (f1 nw (fI 1))) (fV 0 aj))) ρ) (l.map zu)=some (l.map λb=>.tup [.int b.2,zu b]):=iu l λb _=>by
  show(fA be _ _).map _=_;rw[aH [.int b.2,zu b] (bS (bw (zu b) (.int (-1)) rfl rfl (IL b)) (bS rfl rfl)) (c6 _ (by simp))];rfl
 have hk:jn (l.map λb=>D.tup [.int b.2,zu b])=some (l.map yY):=uu l λb _=>by rcases b with⟨_|o,n⟩<;>rfl
 have g:(l.map yY).length<64/\dc (l.map yY)=true/\True/\((l.map yY).map c7).Nodup:=by
  refine⟨by rw[vI];omega,BX l,trivial,?_⟩;rw[uP];exact pairwise_map.mpr (List.Pairwise.imp (λh e=>h (FF e)) hn)
 unfold Ai wh;rw[e];simp only[vJ];rw[hm];simp only[vJ];rw[hk];simp only[vJ];rw[if_pos g];unfold jm;have key:((eP (λb=>c7 (yY b)) l).map λb=>(yY b,zu b))=eP (λp:List At×D=>c7 p.1) (l.map λb=>(yY b,zu b)):=by
  refine ib _ (λx hx y hy e=>?_) ((aR _ _).map _) ?_
  ·obtain⟨a,_,rfl⟩:=vO hx;obtain⟨b,_,rfl⟩:=vO hy;rw[FF e]
  ·exact pairwise_map.mpr (eZ _ _)
 rw[zip_map',←key,uP];rfl
section
variable {ab:LD}(g:∀r∈ab,bY r) (hl:ab.length<=30) (aa:Int) (hn:((bM (ak ab aa)).map (ay 0)).Nodup)
include g hl hn
theorem yZ (cs:List Cl)(MN:cs.length<=60){G:Nat}{r:D}(O:ab[G]? = some r)(U:kindOf r∈eU)(hk:ba r<=aa):dP [.tup ab,.int aa,.lst (cs.map aT),.int G]=lT ((IN (ak ab aa) cs r G).map zu):=by
 have gr:=g r (vL O);have wd:∀(ρ:DL.Env)(j:Nat),ρ[0]? = some (sT ab)->ρ[j]? = some (sI G)->fA aK (ag (f2 bK (ah 0) (ah j)) aj) ρ=sS (kindOf r):=λρ j h0 h2=>aH [r] (bS (bw (.tup ab) (.int G) (by simp[h0]) (by simp[h2]) (by simp[cy O])) rfl) (iY gr.c);have Pq:c9 [.tup ab,.int aa,.int G]=sO true:=by
  obtain⟨a,k,aA,rfl,d⟩:=id gr;rw[kF O aa,decide_eq_true (show a<=aa from hk)]
 have Sb:fm [.tup ab,.int aa,.int G]=sO (decide (kindOf r∈[("paper" : Str),"like","copy"])):=av rfl (ax (dJ (p:=true) (aH [.tup ab,.int aa,.int G] rfl Pq) λ_=>bw (.str (kindOf r)) (.tup ([("paper" : Str),"like","copy"].map .str)) (wd _ 2 rfl rfl) rfl (ir _ _)));have hb:dO [.tup ab,.int aa,.int G]=sO true:=by
  refine(av rfl (ax (kq (aH [.tup ab,.int aa,.int G] rfl (lQ O gr)) λ_=>aH [.tup ab,.int aa,.int G] rfl Sb))).trans ?_;rw[decide_eq_true hk,Bool.true_and];have:∀k∈eU,(decide (k = "leave") || decide (k∈[("paper" : Str),"like","copy"]))=true:=by decide +kernel
  unfold mS;rw[this _ U]
 have OX:decide (kindOf r = "copy")=false:=by
  have:∀k∈eU,decide (k = "copy")=false:=by decide +kernel
  exact this _ U
 have T:=BY hl aa cs r G;have My:b8 ((wG (ak ab aa) cs r G).map zu)=true:=bW λd hd=>by obtain⟨b,_,rfl⟩:=vO hd;exact FC b
 refine av rfl (a9 (cx (p:=true) (cP (aH [.tup ab,.int aa,.int G] rfl hb))) (a9 (bQ (a:=kindOf r) (bb:=false) (wd _ 3 rfl rfl) OX) (cz (ds:=(wG (ak ab aa) cs r G).map zu) ?_ My (ax (FH (b:=false) _ T (Dy hn cs r G) rfl)))));have ho:=Dv g (by omega) aa hn cs MN O U;have hv:=Dx g (by omega) aa O U;refine gH (x:=.lst (((bM (ak ab aa)).filter (sG cs r)).map (LY cs r))) (y:=.lst (((rT (ak ab aa) (cQ r)).filter (yW r G)).map λx=>.tup [.str "leave",.int x.2])) (b1:=true) (b2:=true) (aH [.tup ab,.int aa,.lst (cs.map aT),.int G] rfl ho) (aH [.tup ab,.int aa,.int G] rfl hv) ?_;have M:=T;unfold wG at M ⊢;rw[uZ,vI,vI]at M;refine(if_pos (cX (by rw[vI,vI];omega))).trans ?_;rw[uW,uP,uP];rfl
end
def Ma (K:KL)(c r:D):Bool:=decide (cQ c=cQ r) || (!decide (kindOf r = "copy") && (bM K).any λv=>decide (iD v &&& iD r=iD r) && i6 (br K) (ay 0 v) (ay 3 v) (cQ c) (aF c))
def Ax {α:Type}(l:List α)(p f:α->Bool):((l.filter p).map f).any id=l.any λx=>p x && f x:=by
 induction l with
 |nil=>rfl
 |cons x l g=>
  rw[filter_cons,any_cons,←g];cases h:p x with
  |true=>rw[if_pos rfl,uY,any_cons];rfl
  |false=>rw[if_neg (by decide)];rfl
def Mb {ab:LD}(g:∀r∈ab,bY r)(hl:ab.length<=60)(aa:Int)(jP:(br (ak ab aa)).length<=60)(hn:((bM (ak ab aa)).map (ay 0)).Nodup){M O:Nat}{c r:D}(hc:ab[M]? = some c)(hr:ab[O]? = some r)(kc:kindOf c = "call")(kr:kindOf r∈bC):
  lL [.tup ab,.int aa,.lst ((br (ak ab aa)).map aT),.int M,.int O]=sO (Ma (ak ab aa) c r):=by
 have gC:gA ab:=⟨hl,λr hr=>(g r hr).c⟩;have gc:=g c (vL hc);have gr:=g r (vL hr);have ac:=cy hc;have ar:=cy hr;have pc:=BS gc (jK (.inr kc));have pr:=BS gr (jK (.inl kr));have T:∀v∈bM (ak ab aa),bY v/\bf v=true:=λv hv=>by
  obtain⟨x,hx,rfl⟩:=vO hv;obtain⟨h1,h2⟩:=vN hx;exact⟨g _ (vL (b7 h1)),h2⟩
 have XI:(bM (ak ab aa)).length<=60:=by
  unfold bM;rw[vI];exact vR (vM _ _) (vR (cu ab aa) hl)
 have Mn:aP [c]=sI (aF c):=by
  have:=rj gc.c;unfold sD at this;rwa [if_neg (by unfold bf;rw[kc];decide +kernel)]at this
 have Ue:∀(v7:OB),bp (f2 eD (ah 6) (fA aq (fV 5 (ag (fS "by") aj)))) [sT ab,sI aa,sL ((br (ak ab aa)).map aT),sI M,sI O,some (r,false),sS (cQ c),v7]=some (decide (cQ c=cQ r)):=λv7=>cP (bw (.str (cQ c)) (.str (cQ r)) rfl (aH [r,.str "by"] rfl pr) (by simp));have Uf:∀(v7:OB),bp (f2 eD (fA aK (fV 5 aj)) (fS "copy")) [sT ab,sI aa,sL ((br (ak ab aa)).map aT),sI M,sI O,some (r,false),sS (cQ c),v7]=some (decide (kindOf r = "copy")):=λv7=>bQ (a:=kindOf r) (bb:=false) (aH [r] rfl (iY gr.c)) rfl;refine av rfl (fB r (bw (.tup ab) (.int O) rfl rfl (by simp[ar])) gr.flat (fB (.str (cQ c)) (aH [c,.str "by"] (bS (bw (.tup ab) (.int M) rfl rfl (by simp[ac])) rfl) pc) rfl ?_));unfold Ma;cases h1:decide (cQ c=cQ r) with
 |true=>exact bE ((Ue none).trans (by rw[h1])) (ax rfl)
 |false=>
  refine a9 ((Ue none).trans (by rw[h1])) ?_;cases h2:decide (kindOf r = "copy") with
  |true=>exact bE ((Uf none).trans (by rw[h2])) (ax rfl)
  |false=>
   have kb:kindOf r∈eU:=by
    have Gw:=of_decide_eq_false h2;have:∀k∈bC,k ≠ "copy"->k∈eU:=by decide +kernel
    exact this _ kr Gw
   have pm:=wD gr kb;refine a9 ((Uf none).trans (by rw[h2])) ?_;have G:=gz (fi:=qz (fA gl (fV 0 (fV 1 aj)))) (nT:=1) (cap:=[5]) (tg:=cB 0) (c:=bp (fA io (ag (fA aq (fV 0 (ag (fS "matters") aj))) (ag (fA aq (fV 1 (ag (fS "matters") aj))) aj)))) (fe:=ah 0)
    (ρ:=[sT ab,sI aa,sL ((br (ak ab aa)).map aT),sI M,sI O,some (r,false),sS (cQ c),none]) (bM (ak ab aa)) id (λv=>decide (iD v &&& iD r=iD r)) id
    (by show(fA gl _ _).bind _=_;rw[aH [.tup ab,.int aa] rfl (rE gC aa),rO hn];simp) (by omega) λv hv=>by
     obtain⟨gv,U⟩:=T v hv;exact⟨[some (v,false),some (r,false)],rfl,cP (aH [.int (iD v),.int (iD r)] (aE (aH [v,.str "matters"] rfl (BR gv U)) (aE (aH [r,.str "matters"] rfl pm) rfl)) (ut _ _)),λ_=>⟨false,rfl⟩⟩
   rw[map_id]at G;refine cz (ds:=(bM (ak ab aa)).filter λv=>decide (iD v &&& iD r=iD r)) G (bW λv hv=>(T v (vN hv).1).1.flat) (ax ?_);have Pr:=lr (fi:=bV (ah 7)) (nT:=1) (cap:=[2,6,0,3]) (tg:=cB 0) (fe:=fA cE (fV 1 (fV 0 (fV 2 (ag (fA aP (ag (f2 bK (ah 3) (ah 4)) aj)) aj)))))
    (ρ:=[sT ab,sI aa,sL ((br (ak ab aa)).map aT),sI M,sI O,some (r,false),sS (cQ c),lT ((bM (ak ab aa)).filter λv=>decide (iD v &&& iD r=iD r))]) ((bM (ak ab aa)).filter λv=>decide (iD v &&& iD r=iD r)) id (λv=>.bl (i6 (br (ak ab aa)) (ay 0 v) (ay 3 v) (cQ c) (aF c)))
    (by simp) (vR (vM _ _) (by omega)) λv hv=>by
     obtain⟨gv,U⟩:=T v (vN hv).1;obtain⟨a,o,rl,m,f,rfl,_,_⟩:=rN gv U;exact⟨[some (row a ("root" : Str) [.str o,.int m,.int f,.str rl],false),sL ((br (ak ab aa)).map aT),sS (cQ c),sT ab,sI M],rfl,false,aH [.lst ((br (ak ab aa)).map aT),row a ("root" : Str) [.str o,.int m,.int f,.str rl],.str (cQ c),.int (aF c)] (bS rfl (bS rfl (bS rfl (aE (aH [c] (bS (bw (.tup ab) (.int M) rfl rfl (by simp[ac])) rfl) Mn) rfl)))) (w4 _ jP _ _)⟩
   refine(aH [_] (aE Pr rfl) ?_);show(sr _).map _=_;rw[yy,map_some,Ax];rfl
def Ay (g:bY r)(h:kindOf r = "call"):∃a d b,∃n:Nat,r=row a ("call" : Str) [.int d,.str b,.int n]:=by
 obtain⟨a,k,aA,rfl,d⟩:=g;have hk:k = "call":=h;clear h;cases d with
 |copy k G d b n=>subst hk;exact⟨a,d,b,n,rfl⟩
 |root=>exact cN hk
 |named=>exact cN hk
 |chosen=>exact cN hk
 |heir=>exact cN hk
 |three k G=>rcases G with rfl|rfl|rfl<;>exact cN hk
 |leave=>exact cN hk
 |paper k G=>rcases G with rfl|rfl<;>exact cN hk
def IP (ab:LD)(aa:Int)(g:Nat)(r:D)(day:Int)(c:D):Bool:=decide (kindOf c = "call") && (decide (gO 2 c=g) && (decide (aF c<=day) && (gJ ab aa c && Ma (ak ab aa) c r)))
def Mc (e:f ρ=some (.str a,bb)):bp (f2 sd f (fS b)) ρ=some (!decide (a=b)):=cP (gH (x:=.str a) (y:=.str b) (b1:=bb) (b2:=false) e rfl (by simp))
section
variable {ab:LD}(g:∀r∈ab,bY r) (hl:ab.length<=60) (aa:Int) (jP:(br (ak ab aa)).length<=60) (hn:((bM (ak ab aa)).map (ay 0)).Nodup)
include g hl jP hn
theorem za {M G:Nat}{c r:D}(hc:ab[M]? = some c)(U:ab[G]? = some r)(kr:kindOf r∈bC)(day:Int):jF [.tup ab,.int aa,.lst ((br (ak ab aa)).map aT),.int M,.int G,.int day]=sO (IP ab aa G r day c):=by
 have T:=g c (vL hc);have ac:=cy hc;have tw:bp (f2 sd (fA aK (fV 6 aj)) (fS "call")) [sT ab,sI aa,sL ((br (ak ab aa)).map aT),sI M,sI G,sI day,some (c,false)]=some (!decide (kindOf c = "call")):=Mc (a:=kindOf c) (bb:=false) (aH [c] rfl (iY T.c));refine av rfl (fB c (bw (.tup ab) (.int M) rfl rfl (by simp[ac])) T.flat ?_);unfold IP;by_cases hk:kindOf c = "call"
 ·obtain⟨a,d,b,n,ec⟩:=Ay T hk;have e1:gO 2 c=(n:Int):=by rw[ec];rfl
  have e2:aF c=d:=by rw[ec];rfl
  have po:aq [c,.str "of"]=sI n:=by rw[ec];exact bx (i:=2) da rfl
  have pd:aP [c]=sI d:=by
   have:=rj T.c;unfold sD at this;rwa [if_neg (by unfold bf;rw[hk];decide +kernel),e2]at this
  have t2:bp (f2 sd (fA aq (fV 6 (ag (fS "of") aj))) (ah 4)) [sT ab,sI aa,sL ((br (ak ab aa)).map aT),sI M,sI G,sI day,some (c,false)]=some (!decide ((n:Int)=G)):=cP (bw (.int n) (.int G) (aH [c,.str "of"] rfl po) rfl (by simp));have t3:bp (f2 Gm (fA aP (fV 6 aj)) (ah 5)) [sT ab,sI aa,sL ((br (ak ab aa)).map aT),sI M,sI G,sI day,some (c,false)]=some (decide (day<d)):=cP (bw (.int d) (.int day) (aH [c] rfl pd) rfl rfl);have O:=cL tw λ_=>cL t2 λ_=>t3;rw[e1,e2,decide_eq_true hk,Bool.true_and];rw[decide_eq_true hk]at O;by_cases h1:(n:Int)=G
  ·by_cases h2:d<=day
   ·rw[decide_eq_true h1,decide_eq_true h2,Bool.true_and,Bool.true_and];rw[decide_eq_true h1,decide_eq_false (by omega)]at O;exact a9 O (ax (dJ (aH [.tup ab,.int aa,.int M] rfl (mJ ab (λr U=>(g r U).c.rp) (by omega) aa hc)) λ_=>aH [.tup ab,.int aa,.lst ((br (ak ab aa)).map aT),.int M,.int G] rfl (Mb g hl aa jP hn hc U hk kr)))
   ·rw[decide_eq_false h2,Bool.false_and,Bool.and_false];rw[decide_eq_true h1,decide_eq_true (show day<d by omega)]at O;exact bE O (ax rfl)
  ·rw[decide_eq_false h1,Bool.false_and];rw[decide_eq_false h1]at O;exact bE O (ax rfl)
 ·rw[decide_eq_false hk,Bool.false_and];refine bE (cL (p:=true) (q:=false) (tw.trans (by rw[decide_eq_false hk];rfl)) λh=>by cases h) (ax rfl)
def iZ (ab:LD)(aa:Int)(G:Nat)(r:D)(day:Int):LN:=if ba r<=aa/\kindOf r∈bC then ((ak ab aa).filter λx=>IP ab aa G r day x.1).map (·.2)else []
theorem oH {G:Nat}{r:D}(M:ab[G]? = some r)(day:Int):jG [.tup ab,.int aa,.lst ((br (ak ab aa)).map aT),.int G,.int day]=lT ((iZ ab aa G r day).map λn:Nat=>.int n):=by
 have gr:=g r (vL M);have ar:=cy M;have T:c9 [.tup ab,.int aa,.int G]=sO (decide (ba r<=aa)):=by
  obtain⟨a,k,aA,e,d⟩:=gr;rw[e]at M;rw[show ba r=a by rw[e];rfl];exact kF M aa
 have wd:∀ρ:DL.Env,ρ[0]? = some (sT ab)->ρ[2]? = some (sI G)->fA aK (ag (f2 bK (ah 0) (ah 2)) aj) ρ=sS (kindOf r):=λρ h0 h2=>aH [r] (bS (bw (.tup ab) (.int G) (by simp[h0]) (by simp[h2]) (by simp[ar])) rfl) (iY gr.c);have U:fY [.tup ab,.int aa,.int G]=sO (decide (ba r<=aa) && decide (kindOf r = "leave")):=av rfl (ax (dJ (aH [.tup ab,.int aa,.int G] rfl T) λ_=>bw (.str (kindOf r)) (.str "leave") (wd _ rfl rfl) rfl (by simp)));have Sb:fm [.tup ab,.int aa,.int G]=sO (decide (ba r<=aa) && decide (kindOf r∈[("paper" : Str),"like","copy"])):=av rfl (ax (dJ (aH [.tup ab,.int aa,.int G] rfl T) λ_=>bw (.str (kindOf r)) (.tup ([("paper" : Str),"like","copy"].map .str)) (wd _ rfl rfl) rfl (ir _ _)));have hb:dO [.tup ab,.int aa,.int G]=sO (decide (ba r<=aa/\kindOf r∈bC)):=by
  refine(av rfl (ax (kq (aH [.tup ab,.int aa,.int G] rfl U) λ_=>aH [.tup ab,.int aa,.int G] rfl Sb))).trans ?_;congr 3;simp only[bC,mem_cons,not_mem_nil,or_false];by_cases h1:ba r<=aa
  ·simp[h1]
  ·simp[h1]
 unfold iZ;by_cases hx:ba r<=aa/\kindOf r∈bC
 ·rw[if_pos hx];refine av rfl (a9 (cx (p:=true) (cP (aH [.tup ab,.int aa,.int G] rfl (by rw[hb,decide_eq_true hx])))) (ax ?_));have O:=gz (fi:=bV (fA cA (fV 0 (fV 1 aj)))) (nT:=1) (cap:=[0,1,2,3,4]) (tg:=cB 0) (c:=bp (fA jF (fV 1 (fV 2 (fV 3 (fV 0 (fV 4 (fV 5 aj)))))))) (fe:=ah 0)
   (ρ:=[sT ab,sI aa,sL ((br (ak ab aa)).map aT),sI G,sI day]) (ak ab aa) (λx=>.int x.2) (λx=>IP ab aa G r day x.1) (λx=>.int x.2)
   (by show(fA cA _ _).bind _=_;rw[aH [.tup ab,.int aa] rfl (kE ab (λr M=>(g r M).c.rp) (by omega) aa)];rfl) (vR (cu ab aa) (by omega)) λx hx2=>by
    exact⟨_,rfl,cP (aH [.tup ab,.int aa,.lst ((br (ak ab aa)).map aT),.int x.2,.int G,.int day] rfl (za g hl aa jP hn (b7 hx2) M hx.2 day)),λ_=>⟨false,rfl⟩⟩
  rw[uP];exact O
 ·rw[if_neg hx];exact av rfl (bE (cx (p:=false) (cP (aH [.tup ab,.int aa,.int G] rfl (by rw[hb,decide_eq_false hx])))) (ax (aH [] rfl (ga _ (by simp)))))
omit jP in
theorem FI (T:(cn (ak ab aa)).length<=60){G:Nat}{r:D}(M:ab[G]? = some r)(day:Int):p4 [.tup ab,.int aa,.int G,.int day]=lT ((iZ ab aa G r day).map λn:Nat=>.int n):=by
 obtain⟨U,O⟩:=nR (ab:=ab) ⟨hl,λr M=>(g r M).c⟩ aa T;exact av rfl (ax (aH [.tup ab,.int aa,.lst ((br (ak ab aa)).map aT),.int G,.int day] (bS rfl (bS rfl (aE (aH [.tup ab,.int aa] rfl U) (bS rfl (bS rfl rfl))))) (oH g hl aa O hn M day)))
end
noncomputable def kY:LS:=[("paper" : Str),"like","copy"]
noncomputable def wH (w:Str):Bs->D
 | (some o,n)=>.tup [.str "office",.str o,.int n]
 | (none,n)=>.tup [.str w,.int n]
def uw (r:D):Str:=if kindOf r = "copy" then ("copy" : Str)else ("leave" : Str)
def Dz (b:Bs):wH ("leave" : Str) b=zu b:=by rcases b with⟨_|o,n⟩<;>rfl
def D0 {ab:LD}{n:Nat}(h:ab.length<=n)(aa:Int):c9 [.tup ab,.int aa,.int n]=sO false:=by
 refine av rfl (ax (dJ (p:=false) (q:=false) (b1:=false) ?_ λz=>by cases z));have h1:¬(n:Int)<ab.length:=by omega
 exact(yx (p:=true) (q:=false) (x:=.int 0) (y:=.int n) (z:=.int ab.length) (b1:=false) (b2:=false) (b3:=false) (b4:=false) rfl rfl (by simp) (by simp) λ_=>by simp[h1])
def FJ {ab:LD}{i:Nat}{r:D}(G:ab[i]? = some r)(g:bY r)(aa:Int):c9 [.tup ab,.int aa,.int i]=sO (decide (ba r<=aa)):=by
 obtain⟨a,k,aA,rfl,d⟩:=g;exact kF G aa
def BZ {ab:LD}{i:Nat}{r:D}(G:ab[i]? = some r)(g:bY r){ρ:DL.Env}{j:Nat}(h0:ρ[0]? = some (sT ab))(hj:ρ[j]? = some (sI i)):fA aK (ag (f2 bK (ah 0) (ah j)) aj) ρ=sS (kindOf r) :=
 aH [r] (bS (bw (.tup ab) (.int i) (by simp[h0]) (by simp[hj]) (by simp[cy G])) rfl) (iY g.c)
def zb {ab:LD}{i:Nat}{r:D}(G:ab[i]? = some r)(g:bY r)(aa:Int):fm [.tup ab,.int aa,.int i]=sO (decide (ba r<=aa) && decide (kindOf r∈kY)) :=
 av rfl (ax (dJ (aH [.tup ab,.int aa,.int i] rfl (FJ G g aa)) λ_=>bw (.str (kindOf r)) (.tup (kY.map .str)) (BZ G g rfl rfl) rfl (ir _ _)))
def zc {ab:LD}{i:Nat}{r:D}(G:ab[i]? = some r)(g:bY r)(aa:Int):dO [.tup ab,.int aa,.int i]=sO (decide (ba r<=aa) && decide (kindOf r∈bC)):=by
 refine(av rfl (ax (kq (aH [.tup ab,.int aa,.int i] rfl (lQ G g)) λ_=>aH [.tup ab,.int aa,.int i] rfl (zb G g aa)))).trans ?_;congr 3;unfold mS;simp only[bC,kY,mem_cons,not_mem_nil,or_false];by_cases h1:ba r<=aa
 ·simp[h1]
 ·simp[h1]
def ux (ab:LD)(aa:Int)(r:D)(g n:Nat):Bool:=match ab[n]? with
 |none=>false
 |some q=>(decide (ba q<=aa) && decide (kindOf q∈kY)) && dS (q,n) (r,g)
def rV (g:bY r)(h:kindOf r = "copy"):∃a d b,∃n:Nat,r=row a ("copy" : Str) [.int d,.str b,.int n]:=by
 obtain⟨a,k,aA,rfl,d⟩:=g;have hk:k = "copy":=h;clear h;cases d with
 |copy k G d b n=>subst hk;exact⟨a,d,b,n,rfl⟩
 |root=>exact cN hk
 |named=>exact cN hk
 |chosen=>exact cN hk
 |heir=>exact cN hk
 |three k G=>rcases G with rfl|rfl|rfl<;>exact cN hk
 |leave=>exact cN hk
 |paper k G=>rcases G with rfl|rfl<;>exact cN hk
def rW (h:kindOf r∈kY):bf r=false:=by
 have:∀k∈kY,decide (k = "root")=false:=by decide +kernel
 exact this _ h
def D1 {ab:LD}(g:∀r∈ab,bY r)(aa:Int){G:Nat}{r:D}(O:ab[G]? = some r)(T:kindOf r = "copy"):∃n:Nat,gO 2 r=n/\jE [.tup ab,.int aa,.int G]=lT ((if ux ab aa r G n=true then [((none,(n:Int)):Bs)]else []).map (wH ("copy" : Str))):=by
 have U:=g r (vL O);obtain⟨a,d,b,n,er⟩:=rV U T;have nr:bf r=false:=rW (by rw[T];decide +kernel);have po:aq [r,.str "of"]=sI n:=by rw[er];exact bx (i:=2) da rfl
 refine⟨n,by rw[er];rfl,?_⟩;let E:DL.Env:=[sT ab,sI aa,sI G,sI n];refine av rfl (fB (.int n) (aH [r,.str "of"] (bS (bw (.tup ab) (.int G) rfl rfl (by simp[cy O])) rfl) po) rfl ?_);have M:dq (bp (fA fm (fV 0 (fV 1 (fV 3 aj))))) (bp (fA fZ (fV 0 (fV 3 (fV 2 aj))))) E=some (ux ab aa r G n):=by
  unfold ux;cases hq:ab[n]? with
  |none=>
   have hn:ab.length<=n:=List.getElem?_eq_none_iff.mp hq;exact dz (p:=false) (q:=false) (cP (aH [.tup ab,.int aa,.int n] rfl (av rfl (ax (dJ (p:=false) (q:=false) (aH [.tup ab,.int aa,.int n] rfl (D0 hn aa)) λz=>by cases z))))) λz=>by cases z
  |some q=>
   have gq:=g q (vL hq);exact dz (cP (aH [.tup ab,.int aa,.int n] rfl (zb hq gq aa))) λh=>by
    rw[vC]at h;exact cP (aH [.tup ab,.int n,.int G] rfl (yV hq O gq U (rW (of_decide_eq_true h.2)) nr))
 cases hv:ux ab aa r G n with
 |true=>
  rw[hv]at M;rw[if_pos rfl];exact bE M (ax (aH [.tup [.str "copy",.int n]] (bS (aH [.str "copy",.int n] rfl (c6 _ (by simp))) rfl) (ga _ (by simp))))
 |false=>
  rw[hv]at M;rw[if_neg (by decide)];exact a9 M (ax (aH [] rfl (ga _ (by simp))))
def rX (ab:LD)(aa:Int)(cs:List Cl)(x:D×Nat):List Bs:=if kindOf x.1 = "copy" then (if ux ab aa x.1 x.2 (gO 2 x.1).toNat=true then [(none,gO 2 x.1)]else [])else IN (ak ab aa) cs x.1 x.2
section
variable {ab:LD}(g:∀r∈ab,bY r) (hl:ab.length<=30) (aa:Int) (hn:((bM (ak ab aa)).map (ay 0)).Nodup)
include g hl hn
theorem Ca (cs:List Cl)(T:cs.length<=60){M:Nat}{r:D}(O:ab[M]? = some r)(U:kindOf r∈bC)(hk:ba r<=aa):dP [.tup ab,.int aa,.lst (cs.map aT),.int M]=lT ((rX ab aa cs (r,M)).map (wH (uw r))):=by
 have gr:=g r (vL O);unfold rX uw;by_cases G:kindOf r = "copy"
 ·rw[if_pos G,if_pos G];obtain⟨n,e1,e2⟩:=D1 g aa O G;rw[e1,toNat_natCast];refine av rfl (a9 (cx (p:=true) (cP (aH [.tup ab,.int aa,.int M] rfl ((zc O gr aa).trans (by rw[decide_eq_true hk,decide_eq_true U];rfl))))) (bE (bQ (a:=kindOf r) (bb:=false) (BZ O gr rfl rfl) (decide_eq_true G)) (ax (aH [.tup ab,.int aa,.int M] rfl e2))))
 ·rw[if_neg G,if_neg G];have kb:kindOf r∈eU:=by
   have:∀k∈bC,k ≠ "copy"->k∈eU:=by decide +kernel
   exact this _ U G
  rw[show wH ("leave" : Str)=zu from funext Dz];exact yZ g hl aa hn cs T O kb hk
end
def Md (e:f (eO ρ)=some (d,b))(k:h (ρ.set i (some (d,false)))=r):az (xn i f) h ρ=r:=bZ (ρ':=ρ.set i (some (d,false))) (by simp only[xn,e,map_some]) k
def wI (e:ρ[i]? = some (some (.dk ks vs,b))):iE i ρ=some (.rt (.dk ks vs) false):=by simp[iE,e]
noncomputable def kN (x:D×Nat):dD:=.inl (x.2:Int)
def oU (ab:LD)(aa day:Int)(x:D×Nat):Bool:=(gJ ab aa x.1 && decide (aF x.1<=day)) && (iZ ab aa x.2 x.1 day).isEmpty
def IQ {α:Type}(l:List α)(f:α->D):decide ((((l.map f).length:Nat):Int)=0)=l.isEmpty:=by
 cases l with
 |nil=>rfl
 |cons a l=>rw[uY,vE];exact decide_eq_false (by omega)
noncomputable def ja (ab:LD)(aa day:Int)(l:KL):KL:=l.filter λx=>decide (kindOf x.1∈bC) && oU ab aa day x
section
variable {ab:LD}(g:∀r∈ab,bY r) (hl:ab.length<=30) (aa:Int) (hn:((bM (ak ab aa)).map (ay 0)).Nodup)
include g hl hn
theorem Me (O:(br (ak ab aa)).length<=60){G:Nat}{r:D}(M:ab[G]? = some r)(kr:kindOf r∈bC)(day:Int):mE [.tup ab,.int aa,.lst ((br (ak ab aa)).map aT),.int G,.int day]=sO (oU ab aa day (r,G)):=by
 have gr:=g r (vL M);have nr:bf r=false:=by
  have:∀k∈bC,decide (k = "root")=false:=by decide +kernel
  exact this _ kr
 let E:DL.Env:=[sT ab,sI aa,sL ((br (ak ab aa)).map aT),sI G,sI day];have t1:bp (fA dM (fV 0 (fV 1 (fV 3 aj)))) E=some (gJ ab aa r):=cP (aH [.tup ab,.int aa,.int G] rfl (mJ ab (λr M=>(g r M).c.rp) (by omega) aa M));have t2:bp (f2 Gm (fA aP (ag (f2 bK (ah 0) (ah 3)) aj)) (ah 4)) E=some (decide (day<aF r)):=cP (bw (.int (aF r)) (.int day) (aH [r] (bS (bw (.tup ab) (.int G) rfl rfl (by simp[cy M])) rfl) (rR gr nr)) rfl rfl);have T:=cL (cx t1) λ_=>t2;have e:(!gJ ab aa r || decide (day<aF r)) = !(gJ ab aa r && decide (aF r<=day)):=by
  rw[Bool.not_and];congr 1;rw[←decide_not];congr 1;rw[Int.not_le]
 rw[e]at T;unfold oU;cases U:(gJ ab aa r && decide (aF r<=day)) with
 |false=>
  rw[U]at T;exact av rfl (bE T (ax rfl))
 |true=>
  rw[U]at T;refine av rfl (a9 T (ax ?_));rw[Bool.true_and,←IQ (iZ ab aa G r day) λn:Nat=>.int n];exact bw (.int (((iZ ab aa G r day).map λn:Nat=>D.int n).length:Nat)) (.int 0) (aH [.lst ((iZ ab aa G r day).map λn:Nat=>.int n)] (aE (aH [.tup ab,.int aa,.lst ((br (ak ab aa)).map aT),.int G,.int day] rfl (oH g (by omega) aa O hn M day)) rfl) rfl) rfl (by simp)
theorem zd (ho:(cn (ak ab aa)).length<=60)(day:Int):mF [.tup ab,.int aa,.int day]=sF (.dk ((ja ab aa day (cn (ak ab aa))).map kN) ((ja ab aa day (cn (ak ab aa))).map λx=>.lst ((rX ab aa (br (ak ab aa)) x).map (wH (uw x.1))))):=by
 have gC:gA ab:=⟨by omega,λr T=>(g r T).c⟩;obtain⟨ec,M⟩:=nR (ab:=ab) gC aa ho;have eL:dL [.tup ab,.int aa]=lT ((cn (ak ab aa)).map λx=>.int x.2):=oD gC aa;generalize U:br (ak ab aa)=cs at ec M ⊢;have G:∀x∈cn (ak ab aa),x∈ak ab aa:=λx hx=>(vN ((aR _ _).mem_iff.mp hx)).1;have Mz:((cn (ak ab aa)).map (·.2)).Nodup:=jx (dj ab aa);generalize cn (ak ab aa)=O at ho eL G Mz ⊢;let vD:D×Nat->D:=λx=>.lst ((rX ab aa cs x).map (wH (uw x.1)));let E:KL->OB->DL.Env:=λL v5=>[sT ab,sI aa,sI day,sL (cs.map aT),some (.dk (L.map kN) (L.map vD),true),v5];obtain⟨ρ',e,v5,rfl⟩:=ig (tg:=cB 5) (g:=y8) (λj ρ=>∃v5,ρ=E (ja ab aa day (O.take j)) v5) (O.map λx=>.int x.2) (E [] none) ⟨none,rfl⟩ (by
  rintro j d ρ hd ⟨v5,rfl⟩;rw[vA]at hd;obtain⟨x,hx,rfl⟩:=oY hd;have PV:=G x (vL hx);have T:=b7 PV;have Pq:ba x.1<=aa:=of_decide_eq_true (vN PV).2;have gx:=g x.1 (vL T);have et:O.take (j+1)=O.take j++[x]:=by rw[take_add_one,hx];rfl
  have ef:ja ab aa day (O.take (j+1))=ja ab aa day (O.take j)++if(decide (kindOf x.1∈bC) && oU ab aa day x)=true then [x]else []:=by
   unfold ja;rw[et,filter_append,filter_cons];split<;>rfl
  have Ug:x.2∉(ja ab aa day (O.take j)).map (·.2):=by
   have h2:((O.take (j+1)).map (·.2)).Nodup:=List.Nodup.sublist (List.Sublist.map _ (take_sublist _ _)) Mz;rw[et,uW,nodup_append]at h2;intro hm;obtain⟨y,hy,ey⟩:=vO hm;exact h2.2.2 _ (uS ⟨y,(vN hy).1,rfl⟩) _ (by simp) ey
  have Sc:(ja ab aa day (O.take j)).length<=60:=vR (vM _ _) (vR (List.length_take_le' _ _) ho);generalize ja ab aa day (O.take j)=L at ef Ug Sc;let F:DL.Env:=E L (sI x.2);have t1:bp (fA dO (fV 0 (fV 1 (fV 5 aj)))) F=some (decide (kindOf x.1∈bC)):=cP (aH [.tup ab,.int aa,.int x.2] rfl ((zc T gx aa).trans (by rw[decide_eq_true Pq,Bool.true_and])));have tt:=dz t1 λh=>cP (f:=fA mE (fV 0 (fV 1 (fV 3 (fV 5 (fV 2 aj)))))) (aH [.tup ab,.int aa,.lst (cs.map aT),.int x.2,.int day] rfl (by rw[←U];exact Me g hl aa hn (by rw[U];exact M) T (of_decide_eq_true h) day));refine⟨F,E (L++if(decide (kindOf x.1∈bC) && oU ab aa day x)=true then [x]else []) (sI x.2),rfl,.inl (Im tt (λh=>?_) λh=>?_),sI x.2,by rw[ef]⟩
  ·rw[if_pos h];have kb:kindOf x.1∈bC:=by rw[vC]at h;exact of_decide_eq_true h.1
   have Sd:iU 4 (ah 5) (fA dP (fV 0 (fV 1 (fV 3 (fV 5 aj))))) F=some (.nx (F.set 4 (some (.dk (cV (L.map kN) (kN x)) (cW (L.map kN) (L.map vD) (kN x) (vD x)),true)))):=by
    have ev:fA dP (fV 0 (fV 1 (fV 3 (fV 5 aj)))) (eO F)=some (vD x,true):=aH [.tup ab,.int aa,.lst (cs.map aT),.int x.2] rfl (Ca g hl aa hn cs M T kb Pq);show((fA dP _ (eO F)).bind _)=_;rw[ev];simp only[vJ];exact if_pos (c:=(L.map kN).length<sizeLine) (bH (by rw[vI];omega))
   rw[Sd];have hk:kN x∉L.map kN:=λhm=>by
    obtain⟨y,hy,ey⟩:=vO hm;exact Ug (uS ⟨y,hy,by have:=Sum.inl.inj (show(Sum.inl (y.2:Int):dD)=Sum.inl (x.2:Int)from ey);omega⟩)
   unfold cV cW;rw[if_neg hk,if_neg hk];simp[F,E]
  ·rw[h,if_neg (by decide),uQ];rfl)
 rw[vI,take_length]at e;exact av rfl (Md (aH [.tup ab,.int aa] rfl ec) (bZ (ρ':=E [] none) rfl (bZ (gS (ds:=O.map λx=>.int x.2) (by show(fA dL _ _).bind _=_;rw[aH [.tup ab,.int aa] rfl eL];rfl) e) (wI (b:=true) rfl))))
end
noncomputable def nK (n:Nat):dD:=.inl (n:Int)
noncomputable def Gu:Nat->D:=λ_=>.bl true
noncomputable def gD (S:LN)(b:Bs):Bool:=b.1.isSome || S.any λn=>decide ((n:Int)=b.2)
noncomputable def dA (S:LN)(p:Nat×List Bs):LN:=if p.2.any (gD S)=true then S++[p.1]else S
noncomputable def ge (l:List (Nat×List Bs)):LN:=l.foldl dA []
theorem ze (n:Int):∀S:LN,(cm (S.map nK) (S.map Gu) (.inl n)).isSome=S.any λm=>decide ((m:Int)=n)
 |[]=>rfl
 |m::S=>by
  rw[uY,uY,cm,any_cons];by_cases h:(m:Int)=n
  ·rw[if_pos (show nK m=.inl n by unfold nK;rw[h]),decide_eq_true h];rfl
  ·rw[if_neg (show ¬nK m=.inl n from λz=>h (Sum.inl.inj z)),decide_eq_false h,ze n S];rfl
def Ow {f g:FE}{ρ:DL.Env}{r:D×Bool}(e:f ρ=some r):Ak f g ρ=some r:=by unfold Ak;rw[e]
def Ox {f g:FE}{ρ:DL.Env}{r:OB}(e:f ρ=none)(e2:g ρ=r):Ak f g ρ=r:=by unfold Ak;rw[e];exact e2
def FK (hw:decide (w=("office" : Str))=false)(S:LN)(b:Bs):gm [wH w b,.dk (S.map nK) (S.map Gu)]=sO (gD S b):=by
 unfold gD;rcases b with⟨_|o,n⟩
 ·refine av rfl (ax (kq (p:=false) (b1:=false) (bw (.str w) (.str "office") rfl rfl (by simp[of_decide_eq_false hw])) λ_=>Ow (bw (.int n) (.dk (S.map nK) (S.map Gu)) rfl rfl ?_)));show some (D.bl (cm (S.map nK) (S.map Gu) (.inl n)).isSome,false)=_;rw[ze]
 ·exact av rfl (ax (kq (p:=true) (q:=S.any λm=>decide ((m:Int)=n)) (b1:=false) (bw (.str "office") (.str "office") rfl rfl (by simp)) λh=>by cases h))
def any_map {α:Type}(l:List α)(f:α->Bool):su [.lst (l.map λx=>.bl (f x))]=sO (l.any f):=by
 show(sr _).map _=_;rw[yy,map_some,List.any_map];rfl
def FL (h:m∈dA S p):m∈S∨m=p.1:=by
 unfold dA at h;split at h
 ·simpa using h
 ·exact .inl h
theorem nW:∀(l:List (Nat×List Bs))(S:LN)(m:Nat),m∈l.foldl dA S->m∈S∨m∈l.map (·.1)
 |[],_,_,h=>.inl h
 |p::l,S,m,h=>by
  rcases nW l _ m h with h|h
  ·rcases FL h with h|rfl
   ·exact .inl h
   ·exact .inr (by simp)
  ·exact .inr (mZ _ h)
abbrev Rs:=Nat×Str×List Bs
noncomputable def nX (p:Rs):D:=.lst (p.2.2.map (wH p.2.1))
noncomputable def Cb (p:Rs):Nat×List Bs:=(p.1,p.2.2)
def FM (l:List Rs)(hl:l.length<=60)(hw:∀p∈l,decide (p.2.1 = "office")=false)(hb:∀p∈l,p.2.2.length<=100)(hn:(l.map (·.1)).Nodup):wt [.dk (l.map λp=>nK p.1) (l.map nX)]=sF (.dk ((ge (l.map Cb)).map nK) ((ge (l.map Cb)).map Gu)):=by
 let E:LN->OB->OB->DL.Env:=λS G M=>[sF (.dk (l.map λp=>nK p.1) (l.map nX)),some (.dk (S.map nK) (S.map Gu),true),G,M];have A5:iT (l.map λp=>nK p.1) (l.map nX)=l.map λp=>.tup [.int (p.1:Int),nX p]:=by
  unfold iT;rw[zip_map',uP];rfl
 obtain⟨ρ',e,G,M,rfl⟩:=ig (tg:=Hz [2,3]) (g:=y9) (λj ρ=>∃G M,ρ=E (ge ((l.take j).map Cb)) G M) (l.map λp=>.tup [.int (p.1:Int),nX p]) (E [] none none) ⟨none,none,rfl⟩ (by
  rintro j d ρ hd ⟨G,M,rfl⟩;rw[vA]at hd;obtain⟨p,hp,rfl⟩:=oY hd;have O:=vL hp;have et:l.take (j+1)=l.take j++[p]:=by rw[take_add_one,hp];rfl
  have es:ge ((l.take (j+1)).map Cb)=dA (ge ((l.take j).map Cb)) (Cb p):=by
   rw[et,uW];unfold ge;rw[foldl_append];rfl
  have T:p.1∉ge ((l.take j).map Cb):=λhm=>by
   have h2:((l.take (j+1)).map (·.1)).Nodup:=List.Nodup.sublist (List.Sublist.map _ (take_sublist _ _)) hn;rw[et,uW,nodup_append]at h2;rcases nW _ _ _ hm with h|h
   ·cases h
   ·rw[uP]at h;exact h2.2.2 _ h _ (by simp) rfl
  have PN:(ge ((l.take j).map Cb)).length<=60:=by
   have:∀(q:List (Nat×List Bs))(S:LN),(q.foldl dA S).length<=S.length+q.length:=λq=>by
    induction q with
    |nil=>intro S;exact vT _
    |cons a q ih=>
     intro S;refine vR (ih _) ?_;unfold dA;split
     ·rw[uZ,vE,length_nil,vE];omega
     ·rw[vE];omega
   have h3:=this ((l.take j).map Cb) [];rw[vI,length_take,length_nil]at h3;exact vR h3 (by omega)
  generalize ge ((l.take j).map Cb)=S at es T PN;let F:DL.Env:=E S (sI (p.1:Int)) (some (nX p,false));have hc:=lr (fi:=bV (ah 3)) (nT:=1) (cap:=[1]) (tg:=cB 0) (fe:=fA gm (fV 0 (fV 1 aj))) (ρ:=F) p.2.2 (wH p.2.1) (λb=>.bl (gD S b)) rfl (by have:=hb p O;omega) λb _=>⟨[some (wH p.2.1 b,false),sF (.dk (S.map nK) (S.map Gu))],rfl,false,aH [wH p.2.1 b,.dk (S.map nK) (S.map Gu)] rfl (FK (hw p O) S b)⟩;have t1:bp (fA su (ag (bD (bV (ah 3)) 1 [1] (cB 0) fE (fA gm (fV 0 (fV 1 aj)))) aj)) F=some (p.2.2.any (gD S)):=cP (aH [.lst (p.2.2.map λb=>.bl (gD S b))] (aE hc rfl) (any_map _ _));refine⟨F,E (dA S (Cb p)) (sI (p.1:Int)) (some (nX p,false)),rfl,.inl (Im t1 (λh=>?_) λh=>?_),_,_,by rw[es]⟩
  ·have hk:nK p.1∉S.map nK:=λhm=>by
    obtain⟨y,hy,ey⟩:=vO hm;have:=Sum.inl.inj (show(Sum.inl (y:Int):dD)=Sum.inl (p.1:Int)from ey);exact T (by rw[show p.1=y by omega];exact hy)
   have U:ym 1 (ah 2) (fC (.bl true)) F=some (.nx (F.set 1 (some (.dk (cV (S.map nK) (nK p.1)) (cW (S.map nK) (S.map Gu) (nK p.1) (.bl true)),true)))):=if_pos (c:=bg (.bl true)=true/\(S.map nK).length<sizeLine) ⟨rfl,bH (by rw[vI];omega)⟩;rw[U];unfold cV cW dA;rw[if_neg hk,if_neg hk,if_pos (show(Cb p).2.any (gD S)=true from h)];simp[F,E,Cb,Gu]
  ·unfold dA;rw[if_neg (show ¬(Cb p).2.any (gD S)=true by show ¬p.2.2.any (gD S)=true;rw[h];decide)];rfl)
 rw[vI,take_length]at e;exact av rfl (bZ (ρ':=E [] none none) rfl (bZ (gS (ds:=l.map λp=>.tup [.int (p.1:Int),nX p]) (by show some (iT _ _)=_;rw[A5]) e) (wI (b:=true) rfl)))
theorem uy:∀S:LN,tV (S.map nK)=some (S.map λ(n:Nat)=>(n:Int))
 |[]=>rfl
 |n::S=>by
  show(tV (S.map nK)).map _=_;rw[uy S];rfl
def Mf (e:f ρ=some (.tup [x,y],b))(hx:bg x=true)(hy:bg y=true)(k:h ((ρ.set i (some (x,false))).set j (some (y,false)))=r):az (xH [i,j] f) h ρ=r:=by
 refine bZ (ρ':=(ρ.set i (some (x,false))).set j (some (y,false))) ?_ k;have hn:b8 [x,y]=true:=by simp[hx,hy]
 simp only[xH,e,vJ,hU,hn,if_true];simp[fQ]
def fw (ab:LD)(aa:Int)(x:D×Nat):List Bs:=rX ab aa (br (ak ab aa)) x
def fO (ab:LD)(aa day:Int):LN:=ge ((ja ab aa day (cn (ak ab aa))).map λx=>(x.2,fw ab aa x))
def Oy (S:LN):LD:=(df (S.map λ(n:Nat)=>(n:Int))).map .int
def Az (r:D):decide (uw r = "office")=false:=by
 unfold uw;split
 ·decide +kernel
 ·decide +kernel
def wJ (h:kindOf r∈bC):bf r=false:=by
 have:∀k∈bC,decide (k = "root")=false:=by decide +kernel
 exact this _ h
section
variable {ab:LD}(g:∀r∈ab,bY r) (hl:ab.length<=30) (aa:Int) (hn:((bM (ak ab aa)).map (ay 0)).Nodup) (ho:(cn (ak ab aa)).length<=60)
include hl
theorem rY (x:D×Nat):(fw ab aa x).length<=60:=by
 unfold fw rX;split
 ·split
  ·exact(by decide:1<=60)
  ·exact uN _
 ·unfold IN;rw[(aR _ _).length_eq];exact BY hl aa _ _ _
theorem D2 (day:Int):(fO ab aa day).length<=60:=by
 have:∀(q:List (Nat×List Bs))(S:LN),(q.foldl dA S).length<=S.length+q.length:=λq=>by
  induction q with
  |nil=>intro S;exact vT _
  |cons a q G=>
   intro S;refine vR (G _) ?_;unfold dA;split
   ·rw[uZ,vE,length_nil,vE];omega
   ·rw[vE];omega
 have h3:=this ((ja ab aa day (cn (ak ab aa))).map λx=>(x.2,fw ab aa x)) [];have h4:(cn (ak ab aa)).length<=30:=by
  unfold cn;rw[(aR _ _).length_eq];exact vR (vM _ _) (vR (cu ab aa) hl)
 have h5:(ja ab aa day (cn (ak ab aa))).length<=30:=vR (vM _ _) h4;rw[vI,length_nil]at h3;exact vR h3 (by omega)
include g hn ho
theorem zf (day:Int):jH [.tup ab,.int aa,.int day]=lT (Oy (fO ab aa day)):=by
 have G:=zd g hl aa hn ho day;have h4:(ja ab aa day (cn (ak ab aa))).length<=60:=vR (vM _ _) ho;have es:=FM ((ja ab aa day (cn (ak ab aa))).map λx=>(x.2,uw x.1,fw ab aa x)) (by rw[vI];exact h4)
  (λp hp=>by obtain⟨x,_,rfl⟩:=vO hp;exact Az _) (λp hp=>by obtain⟨x,_,rfl⟩:=vO hp;exact vR (rY hl aa x) (by decide))
  (by rw[uP];exact List.Nodup.sublist (List.Sublist.map _ filter_sublist) (jx (dj ab aa)))
 rw[uP,uP,uP]at es;refine av rfl (ax (aH [_] (aE (aH [_] (aE (aH [.tup ab,.int aa,.int day] rfl G) rfl) es) rfl) ?_));show(tV ((fO ab aa day).map nK)).bind _=_;rw[uy,vJ,if_pos (by rw[vI];have:=D2 hl aa day;omega)];rfl
end
def FN (h:aN 40 d=true):sd d d=sO false:=by
 unfold sd;rw[if_pos ⟨h,h⟩,re 40 _ h];rfl
def FP (ab:LD)(aa:Int):bM (ak ab aa)=ab.filter λv=>bf v && decide (ba v<=aa):=by
 unfold bM ak;rw[List.filter_filter];have:∀(l:List (D×Nat))(q:D->Bool),(l.filter λx=>q x.1).map (·.1)=(l.map (·.1)).filter q:=λl q=>by rw[List.filter_map];rfl
 refine(this ab.zipIdx λv=>bf v && decide (ba v<=aa)).trans ?_;rw[List.zipIdx_map_fst]
def FQ (ab:LD)(aa:Int):((bM (ak ab aa)).map (ay 0)).Sublist (lx ab):=by
 rw[FP];unfold lx;refine List.Sublist.map _ ?_;have:(ab.filter λv=>bf v && decide (ba v<=aa))=(ab.filter bf).filter λv=>decide (ba v<=aa):=by rw[List.filter_filter];congr 1;funext v;rw[Bool.and_comm]
 rw[this];exact filter_sublist
def jz (ab:LD)(aa day:Int):List Rs:=(ja ab aa day (cn (ak ab aa))).map λx=>(x.2,uw x.1,fw ab aa x)
def S4 (p:Rs):D:=.tup [.int (p.1:Int),nX p]
def FR {S T:LN}(h:∀m∈S,m∈T)(b:Bs)(k:gD S b=true):gD T b=true:=by
 unfold gD at k ⊢;rw[or_eq_true,any_eq_true]at k ⊢;exact k.imp id λ⟨n,hn,e⟩=>⟨n,h n hn,e⟩
def Cc (h:m∈S):m∈dA S p:=by
 unfold dA;split
 ·exact mem_append_left _ h
 ·exact h
theorem wK:∀(q:List (Nat×List Bs))(S:LN),m∈S->m∈q.foldl dA S
 |[],_,h=>h
 |_::q,_,h=>wK q _ (Cc h)
theorem rZ:∀(l:List (Nat×List Bs))(S:LN)(n:Nat),n∈l.foldl dA S->n∈S∨∃p∈l,p.1=n/\p.2.any (gD (l.foldl dA S))=true
 |[],S,n,h=>.inl h
 |p::l,S,n,h=>by
  rw[foldl_cons]at h ⊢;rcases rZ l (dA S p) n h with z|⟨g,hp,e,k⟩
  ·by_cases hs:n∈S
   ·exact .inl hs
   ·unfold dA at z;split at z
    ·rename_i hb;rcases mem_append.mp z with q|q
     ·exact absurd q hs
     ·obtain⟨b,h1,h2⟩:=any_eq_true.mp hb;exact .inr ⟨p,mX,(uT q).symm,any_eq_true.mpr ⟨b,h1,FR (λm hm=>wK l _ (Cc hm)) b h2⟩⟩
    ·exact absurd z hs
  ·exact .inr ⟨g,mZ _ hp,e,k⟩
def p6 (z:Int)(zs:LI):sk (.int z) (.lst (zs.map .int))=sO (zs.any λy=>decide (y=z)):=by
 have g:(zs.map D.int).all gs=true:=by
  rw[all_eq_true];intro d hd;obtain⟨m,_,rfl⟩:=vO hd;rfl
 have G:∀zs:LI,Gn (.int z) (zs.map .int)=zs.any λy=>decide (y=z):=λzs=>by
  induction zs with
  |nil=>rfl
  |cons y zs M=>
   show(cI (.int y) (.int z) || Gn (.int z) (zs.map .int))=_;rw[M,any_cons,cI]
 simp only[sk,hU,vJ];rw[if_pos ⟨rfl,g⟩,G]
def FU (z:Int)(zs:LI):eM (.int z) (.lst (zs.map .int))=sO (!zs.any λy=>decide (y=z)):=by
 have h:=p6 z zs;simp only[sk,eM,hU,vJ]at h ⊢;split at h
 ·rename_i q;rw[if_pos q];injection h with h;injection h with h _;injection h with h;rw[h]
 ·cases h
noncomputable def sJ (l:List Rs)(z:Int):Bool:=l.any λp=>decide ((p.1:Int)=z)
theorem zg (z:Int):∀l:List Rs,(cm (l.map λp=>nK p.1) (l.map nX) (.inl z)).isSome=sJ l z
 |[]=>rfl
 |p::l=>by
  unfold sJ;rw[uY,uY,cm,any_cons];by_cases h:nK p.1=.inl z
  ·rw[if_pos h,decide_eq_true (Sum.inl.inj h)];rfl
  ·rw[if_neg h,decide_eq_false λe=>h (congrArg Sum.inl e),Bool.false_or];exact zg z l
theorem zh:∀(l:List Rs),(l.map (·.1)).Nodup->∀p∈l,cm (l.map λp=>nK p.1) (l.map nX) (nK p.1)=some (nX p)
 |q::l,h,p,hp=>by
  rw[uY,nodup_cons]at h;show(if nK q.1=nK p.1 then some (nX q)else cm _ _ _)=_;rcases vP hp with rfl|hp
  ·rw[if_pos rfl]
  ·rw[if_neg λe=>?_,zh l h.2 p hp];have z:q.1=p.1:=by
    have:=Sum.inl.inj (show(Sum.inl _:dD)=Sum.inl _ from e);omega
   exact h.1 (uS ⟨p,hp,z.symm⟩)
def FV {g h:FS}{ρ:DL.Env}{d:D}{b:Bool}(e:g ρ=some (.rt d b)):az g h ρ=some (.rt d b):=by unfold az;rw[e]
def Ce {fi:FA}{ρ:DL.Env}{ds:LD}{tg:FG}{g:FS}{x:Option Res}(e:fi (eO ρ)=some ds)(k:gp tg g ds ρ=x):l8 fi tg g ρ=x:=by unfold l8;rw[e];exact k
noncomputable def lz (z:LI):D:=.lst (z.map .int)
def IS {f h:FE}{ρ:DL.Env}{x y:LI}{b c:Bool}(e:f ρ=some (lz x,b))(e2:h ρ=some (lz y,c))(hl:x.length+y.length<=1000):f2 aV f h ρ=some (lz (x++y),true):=by
 refine gH e e2 ?_;show(if _ then some (D.lst (x.map D.int++y.map D.int),true)else none)=_;rw[if_pos (cX (by rw[vI,vI];omega)),←uW];rfl
def QI {f:FE}{ρ:DL.Env}{m:Int}(e:f ρ=sI m):fA bv (ag f aj) ρ=some (lz [m],true):=aH [.int m] (bS e rfl) (ga _ (by simp))
def Oz {f h:FE}{ρ:DL.Env}{x y:LI}{b c:Bool}(e:f ρ=some (lz x,b))(e2:h ρ=some (lz y,c)):fA bv (ag f (ag h aj)) ρ=some (.lst ([x,y].map lz),true):=aH [lz x,lz y] (aE e (aE e2 rfl)) (ga _ (by simp))
def O0 {f h:FE}{ρ:DL.Env}{X Y:List LI}{b c:Bool}(e:f ρ=some (.lst (X.map lz),b))(e2:h ρ=some (.lst (Y.map lz),c))(hl:X.length+Y.length<=1000):f2 aV f h ρ=some (.lst ((X++Y).map lz),true):=by
 refine gH e e2 ?_;show(if _ then some (D.lst (X.map lz++Y.map lz),true)else none)=_;rw[if_pos (cX (by rw[vI,vI];omega)),←uW]
def wL (z:LI):b8 (z.map D.int)=true:=bW λd hd=>by obtain⟨c,_,rfl⟩:=vO hd;rfl
def IT {ρ:DL.Env}{i:Nat}{f:FE}{L:List LI}{z:LI}{b:Bool}(e:ρ[i]? = some (lT (L.map lz)))(g:f (eO ρ)=some (lz z,b))(h:L.length<=1000):m4 i f ρ=some (.nx (ρ.set i (lT ((L++[z]).map lz)))):=by
 unfold m4;rw[e];dsimp only;rw[g,vJ,if_pos (bH (by rw[vI];omega)),uW];rfl
section
variable {ab:LD}(g:∀r∈ab,bY r) (hl:ab.length<=30) (aa:Int) (hn:((bM (ak ab aa)).map (ay 0)).Nodup) (ho:(cn (ak ab aa)).length<=60)
theorem D3 (day:Int):((jz ab aa day).map (·.1)).Nodup:=by
 unfold jz;rw[uP];exact List.Nodup.sublist (List.Sublist.map _ filter_sublist) (jx (dj ab aa))
theorem O1 (day:Int):∀p∈jz ab aa day,decide (p.2.1 = "office")=false:=λp hp=>by obtain⟨x,_,rfl⟩:=vO hp;exact Az _
theorem IU {day:Int}{p:Rs}(h:p∈jz ab aa day):∃r,ab[p.1]? = some r/\(r,p.1)∈ak ab aa/\bf r=false/\kindOf r∈bC/\oU ab aa day (r,p.1)=true/\p=(p.1,uw r,fw ab aa (r,p.1)):=by
 obtain⟨x,hx,rfl⟩:=vO h;obtain⟨h1,h2⟩:=vN hx;rw[vC]at h2;obtain⟨hk,G⟩:=vN ((aR _ _).mem_iff.mp h1);exact⟨x.1,b7 hk,hk,by simpa using G,of_decide_eq_true h2.1,h2.2,rfl⟩
include ho in
theorem IV (day:Int):(jz ab aa day).length<=60:=by unfold jz;rw[vI];exact vR (vM _ _) ho
include hl in
theorem O2 (day:Int):∀p∈jz ab aa day,p.2.2.length<=100:=λp hp=>by obtain⟨x,_,rfl⟩:=vO hp;exact vR (rY hl aa x) (by decide)
theorem A0 {r:D}{n:Nat}(g:∀r∈ab,bY r)(G:ab[n]? = some r){b:Bs}(hb:b∈fw ab aa (r,n))(e:b.1=none):∃(m:Nat)(q:D),b.2=(m:Int)/\ab[m]? = some q/\(q,m)∈ak ab aa/\dS (q,m) (r,n)=true:=by
 unfold fw rX at hb;split at hb
 ·rename_i M;obtain⟨a,d,O,m,er⟩:=rV (g _ (vL G)) M;have en:gO 2 r=m:=by rw[er];rfl
  simp only[en,toNat_natCast]at hb;split at hb
  ·rename_i hv;rw[mem_singleton]at hb;subst hb;unfold ux at hv;split at hv
   ·cases hv
   ·rename_i q hq;rw[vC,vC]at hv;refine⟨m,q,rfl,hq,mem_filter.mpr ⟨List.mk_mem_zipIdx_iff_getElem?.mpr hq,hv.1.1⟩,hv.2⟩
  ·cases hb
 ·unfold IN at hb;have hb:=(aR _ _).mem_iff.mp hb;unfold wG at hb;rcases mem_append.mp hb with z|z
  ·obtain⟨v,_,rfl⟩:=vO z;cases e
  ·obtain⟨y,hy,rfl⟩:=vO z;obtain⟨h1,h2⟩:=vN hy;unfold yW at h2;rw[vC]at h2;exact⟨y.2,y.1,rfl,(yX g h1).1,(vN (vN h1).1).1,h2.1⟩
end
noncomputable def dX (zs:LI)(b:Bs):Bool:=b.1.isSome || zs.any λy=>decide (y=b.2)
def Mg {w:Str}(hw:decide (w=("office" : Str))=false)(zs:LI)(b:Bs):gm [wH w b,lz zs]=sO (dX zs b):=by
 unfold dX;rcases b with⟨_|o,n⟩
 ·exact av rfl (ax (kq (p:=false) (b1:=false) (bw (.str w) (.str "office") rfl rfl (by simp[of_decide_eq_false hw])) λ_=>Ox rfl (bw (.int n) (lz zs) rfl rfl (p6 n zs))))
 ·exact av rfl (ax (kq (p:=true) (q:=zs.any λm=>decide (m=n)) (b1:=false) (bw (.str "office") (.str "office") rfl rfl (by simp)) λh=>by cases h))
theorem Cf:∀l:LI,kg (l.map D.int)=some l
 |[]=>rfl
 |a::l=>by rw[uY,kg,Cf l];rfl
def JN (zs:LI)(h:zs.length<64):gk [lz zs]=some (lz (df zs),true):=by
 cases zs with
 |nil=>rfl
 |cons n S=>
  have h1:gy ((n::S).map D.int)=none:=rfl;show gk [.lst ((n::S).map D.int)]=_;unfold gk;simp only[h1,Cf (n::S)];rw[if_pos h];rfl
theorem O3:∀a b:LI,eC (a.map D.int) (b.map D.int)=decide (a=b)
 |[],[]=>by simp[eC]
 |[],_::_=>by simp[eC]
 |_::_,[]=>by simp[eC]
 |x::a,y::b=>by
  rw[uY,uY,eC,O3 a b];simp only[cI];by_cases h:x=y
  ·subst h;simp
  ·simp[h]
def QJ (z:LI):aN 40 (lz z)=true:=by
 show(z.map D.int).all _=true;rw[all_eq_true];intro d hd;obtain⟨_,_,rfl⟩:=vO hd;rfl
def S5 (a b:LI):eD (lz a) (lz b)=sO (decide (a=b)):=by
 unfold eD;rw[if_pos ⟨QJ a,QJ b⟩];show some (D.bl (eC _ _),false)=_;rw[O3]
noncomputable def dY (l:List Rs)(zs:LI):LI:=(l.filter λp=>p.2.2.any (dX zs)).map λp=>(p.1:Int)
section
variable {ab:LD}(g:∀r∈ab,bY r) (hl:ab.length<=30) (aa:Int) (hn:((bM (ak ab aa)).map (ay 0)).Nodup) (ho:(cn (ak ab aa)).length<=60)
include g hl hn ho
theorem D4 (day:Int):mF [.tup ab,.int aa,.int day]=sF (.dk ((jz ab aa day).map λp=>nK p.1) ((jz ab aa day).map nX)):=by
 rw[zd g hl aa hn ho day];unfold jz;rw[uP,uP];rfl
theorem wM (day:Int)(zs:LI)(hz:zs.length<64):jt [.tup ab,.int aa,.int day,lz zs]=sO (decide (df zs=df (dY (jz ab aa day) zs))):=by
 have O:=D4 g hl aa hn ho day;have hw:=O1 (ab:=ab) aa day;have G:=IV (ab:=ab) aa ho day;have hb:=O2 hl aa day;generalize jz ab aa day=l at O hw G hb;let E:OB->DL.Env:=λT=>[sT ab,sI aa,sI day,sF (lz zs),sF (.dk (l.map λp=>nK p.1) (l.map nX)),T];have A5:iT (l.map λp=>nK p.1) (l.map nX)=l.map S4:=by
  unfold iT;rw[zip_map',uP];rfl
 have U:=gz (fi:=mz (ah 4)) (nT:=2) (cap:=[3]) (tg:=Hz [0,1]) (c:=bp (fA su (ag (bD (bV (ah 1)) 1 [2] (cB 0) fE (fA gm (fV 0 (fV 1 aj)))) aj))) (fe:=ah 0) (ρ:=E none) l S4 (λp=>p.2.2.any (dX zs)) (λp=>.int (p.1:Int)) (by show some (iT _ _)=_;rw[A5]) (by omega) λp hp=>by
  let F:DL.Env:=[sI (p.1:Int),some (nX p,false),sF (lz zs)];have hc:=lr (fi:=bV (ah 1)) (nT:=1) (cap:=[2]) (tg:=cB 0) (fe:=fA gm (fV 0 (fV 1 aj))) (ρ:=F) p.2.2 (wH p.2.1) (λb=>.bl (dX zs b)) rfl (by have:=hb p hp;omega) λb _=>⟨[some (wH p.2.1 b,false),sF (lz zs)],rfl,false,aH [wH p.2.1 b,lz zs] rfl (Mg (hw p hp) zs b)⟩;exact⟨F,rfl,cP (aH [.lst (p.2.2.map λb=>.bl (dX zs b))] (aE hc rfl) (any_map _ _)),λ_=>⟨false,rfl⟩⟩
 have e5:bD (mz (ah 4)) 2 [3] (Hz [0,1]) (bp (fA su (ag (bD (bV (ah 1)) 1 [2] (cB 0) fE (fA gm (fV 0 (fV 1 aj)))) aj))) (ah 0) (E none)=lT ((dY l zs).map .int):=by
  rw[U];unfold dY;rw[uP];rfl
 have M:(dY l zs).length<64:=by
  unfold dY;rw[vI];exact lt_of_le_of_lt (vM _ _) (by omega)
 exact av rfl (LQ (aH [.tup ab,.int aa,.int day] rfl O) rfl (cz (ds:=(dY l zs).map .int) e5 (wL _) (ax (gH (x:=lz (df zs)) (y:=lz (df (dY l zs))) (b1:=true) (b2:=true) (aH [lz zs] rfl (JN zs hz)) (aH [lz (dY l zs)] rfl (JN _ M)) (S5 _ _)))))
end
def FW (g:bY r)(h:kindOf r∈bC):∃a k d aA,r=row a k (.int d::aA):=by
 obtain⟨a,k,aA,rfl,d⟩:=g;have h:k∈bC:=h;cases d with
 |root=>exact absurd (show("root" : Str)∈bC from h) (by decide +kernel)
 |_=>exact⟨a,_,_,_,rfl⟩
theorem Cg {n:Nat}{x y:D}:∀(L:List Rs),nK n∉L.map (λp=>nK p.1)->List.zipWith (λk' g=>if k'=nK n then x else g) (L.map (λp=>nK p.1)++[nK n]) (L.map nX++[y])=L.map nX++[x]
 |[],_=>by simp
 |p::L,h=>by
  simp only[uY,cons_append,zipWith_cons_cons];rw[if_neg λe=>h (by rw[←e];exact mX),Cg L λm=>h (mZ _ m)]
def O4 {ρ:DL.Env}{i:Nat}{g G:FE}{ks:LK}{vs:LD}{v:D}{b:Bool}{n:Nat}(e:ρ[i]? = some (some (.dk ks vs,true)))(M:G (eO ρ)=some (v,b))(ek:g ρ=sI (n:Int))(h:ks.length<=1000):iU i g G ρ=some (.nx (ρ.set i (some (.dk (cV ks (nK n)) (cW ks vs (nK n) v),true)))):=by
 unfold iU;rw[e];dsimp only;rw[M,vJ,ek,vJ];exact if_pos (c:=ks.length<sizeLine) (bH (by omega))
def qR (ab:LD)(aa day:Int)(x:D×Nat):Rs:=(x.2,uw x.1,if oU ab aa day x=true then fw ab aa x else [])
noncomputable def qX (ab:LD)(aa day:Int)(l:KL):List Rs:=(l.filter λx=>decide (ba x.1<=aa) && decide (kindOf x.1∈bC)).map (qR ab aa day)
noncomputable def Gv (L:List Rs):D:=.dk (L.map λp=>nK p.1) (L.map nX)
section
variable {ab:LD}(g:∀r∈ab,bY r) (hl:ab.length<=30) (aa:Int) (hn:((bM (ak ab aa)).map (ay 0)).Nodup) (ho:(cn (ak ab aa)).length<=60)
include g hl hn ho
theorem FX {n:Nat}{r:D}(G:ab[n]? = some r)(O:kindOf r∈bC)(hk:ba r<=aa):wu [.tup ab,.int aa,.int (n:Int)]=lT ((fw ab aa (r,n)).map (wH (uw r))):=by
 obtain⟨T,M⟩:=nR (ab:=ab) ⟨by omega,λr G=>(g r G).c⟩ aa ho;exact av rfl (ax (aH [.tup ab,.int aa,.lst ((br (ak ab aa)).map aT),.int n] (bS rfl (bS rfl (aE (aH [.tup ab,.int aa] rfl T) (bS rfl rfl)))) (Ca g hl aa hn _ M G O hk)))
theorem FY (day:Int):k9 [.tup ab,.int aa,.int day]=sF (Gv (qX ab aa day ab.zipIdx)):=by
 let E:List Rs->OB->OB->OB->DL.Env:=λL v4 T U=>[sT ab,sI aa,sI day,some (Gv L,true),v4,T,U];obtain⟨ρ',e,v4,T,U,rfl⟩:=jp (tg:=cB 4) (g:=mG) ab.length (λj ρ=>∃v4 T U,ρ=E (qX ab aa day (ab.zipIdx.take j)) v4 T U) (E [] none none none) ⟨_,_,_,rfl⟩ (by
  rintro j ρ hj ⟨v4,T,U,rfl⟩;obtain⟨r,O⟩:∃r,ab[j]? = some r:=⟨_,vU hj⟩;have gr:=g r (vL O);have hz:ab.zipIdx[j]? = some (r,j):=by rw[List.getElem?_zipIdx,O,zero_add];rfl
  have eq:qX ab aa day (ab.zipIdx.take (j+1))=qX ab aa day (ab.zipIdx.take j)++if(decide (ba r<=aa) && decide (kindOf r∈bC))=true then [qR ab aa day (r,j)]else []:=by
   unfold qX;rw[take_add_one,hz,filter_append,uW];congr 1;show List.map _ (List.filter _ [(r,j)])=_;rw[filter_cons];split<;>rfl
  have G:nK j∉(qX ab aa day (ab.zipIdx.take j)).map λp=>nK p.1:=λhm=>by
   obtain⟨p,hp,ep⟩:=vO hm;obtain⟨x,hx,rfl⟩:=vO hp;obtain⟨i,hi⟩:=mem_iff_getElem?.mp (vN hx).1;rw[List.getElem?_take]at hi;split at hi
   ·rename_i hij;rw[List.getElem?_zipIdx,zero_add]at hi;obtain⟨q,_,rfl⟩:=oY hi;have:=Sum.inl.inj (show(Sum.inl (i:Int):dD)=Sum.inl (j:Int)from ep);omega
   ·cases hi
  have Sc:(qX ab aa day (ab.zipIdx.take j)).length<=60:=by
   unfold qX;rw[vI];refine vR (vM _ _) ?_;rw[length_take,length_zipIdx];omega
  generalize qX ab aa day (ab.zipIdx.take j)=L at eq G Sc;obtain⟨a,k,aA,er,dd⟩:=id gr;have fl:bg r=true:=gr.flat;have e1:f2 bK (ah 0) (ah 4) (E L (sI (j:Int)) T U)=some (.tup [.int a,.tup (.str k::aA)],false):=bw (.tup ab) (.int j) rfl rfl (by rw[show D.tup [.int a,.tup (.str k::aA)]=r from er.symm];simp[cy O]);have WU:bg (.tup (.str k::aA))=true:=by
   rw[er]at fl;have:b8 [D.int a,.tup (.str k::aA)]=true:=by simpa [row]using fl
   simpa using this
  have hA:ba r=a:=by rw[er];rfl
  have hK:kindOf r=k:=by rw[er];rfl
  let F:List Rs->DL.Env:=λL=>E L (sI (j:Int)) (sI a) (sT (.str k::aA));have t1:dq (bp (f2 wR (ah 5) (ah 1))) (bp (f2 sk (dZ 6 0) (fA be (ag (fS "leave") (ag (fS "paper") (ag (fS "like") (ag (fS "copy") aj))))))) (F L)=some (decide (ba r<=aa) && decide (kindOf r∈bC)):=by
   rw[hA,hK];exact dz (cP (bw (.int a) (.int aa) rfl rfl rfl)) λ_=>cP (bw (.str k) (.tup (bC.map .str)) (by simp[F,E,Gr]) (aH (bC.map .str) rfl (c6 _ (by simp[bC]))) (ir _ _))
  refine⟨E L (sI (j:Int)) T U,E (L++if(decide (ba r<=aa) && decide (kindOf r∈bC))=true then [qR ab aa day (r,j)]else []) (sI (j:Int)) (sI a) (sT (.str k::aA)),rfl,.inl (Mf e1 rfl WU (Im t1 (λh=>?_) λh=>?_)),_,_,_,by rw[eq]⟩
  ·rw[if_pos h];rw[vC]at h;have hk:=of_decide_eq_true h.1;have kb:=of_decide_eq_true h.2;obtain⟨a',k',d,Ps,M⟩:=FW gr kb;have Pt:aA=.int d::Ps:=by rw[er]at M;unfold row at M;injection M with q;injection q with _ q;injection q with q _;injection q with q;injection q
   have hD:aF r=d:=by rw[M];rfl
   have p1:iU 3 (ah 4) (fA bv aj) (F L)=some (.nx (F (L++[(j,uw r,[])]))):=by
    refine(O4 (n:=j) (v:=.lst []) (b:=true) rfl rfl rfl (by rw[vI];omega)).trans ?_;unfold cV cW;rw[if_neg G,if_neg G];simp[E,F,Gv,nX]
   have t2:dq (bp (f2 wR (dZ 6 1) (ah 2))) (dq (bp (fA dM (fV 0 (fV 1 (fV 4 aj))))) (bp (f2 eD (fA p4 (fV 0 (fV 1 (fV 4 (fV 2 aj))))) (fA bv aj)))) (F (L++[(j,uw r,[])]))=some (oU ab aa day (r,j)):=by
    have e:oU ab aa day (r,j)=(decide (d<=day) && (gJ ab aa r && (iZ ab aa j r day).isEmpty)):=by
     unfold oU;rw[hD,Bool.and_comm (gJ _ _ _),Bool.and_assoc]
    rw[e];refine dz (cP (bw (.int d) (.int day) (by simp[F,E,Pt,Gs]) rfl rfl)) λ_=>dz (cP (aH [.tup ab,.int aa,.int j] rfl (mJ ab (λr O=>(g r O).c.rp) (by omega) aa O))) λ_=>?_;refine Am (b:=false) (gH (x:=lz ((iZ ab aa j r day).map λn:Nat=>(n:Int))) (y:=lz []) (b1:=true) (b2:=true) (aH [.tup ab,.int aa,.int j,.int day] rfl ((FI g (by omega) aa hn ho O day).trans (by unfold lz;rw[uP];rfl))) (aH [] rfl (ga _ (by simp))) ((S5 _ _).trans ?_));cases iZ ab aa j r day<;>rfl
   refine bZ p1 (Im t2 (λhf=>?_) λhf=>?_)
   ·refine(O4 (n:=j) (v:=.lst ((fw ab aa (r,j)).map (wH (uw r)))) (b:=true) rfl (aH [.tup ab,.int aa,.int j] rfl (FX g hl aa hn ho O kb hk)) rfl (by rw[vI,uZ];show L.length+1<=1000;omega)).trans ?_;unfold cV cW;have k1:(L++[(j,uw r,[])]).map (λp:Rs=>nK p.1)=L.map (λp=>nK p.1)++[nK j]:=by rw[uW];rfl
    have k2:(L++[(j,uw r,[])]).map nX=L.map nX++[nX (j,uw r,[])]:=by rw[uW];rfl
    have hm:nK j∈(L.map λp=>nK p.1)++[nK j]:=by simp
    have z':qR ab aa day (r,j)=(j,uw r,fw ab aa (r,j)):=by unfold qR;rw[if_pos hf]
    rw[k1,k2,if_pos hm,if_pos hm,Cg L G,z'];simp[E,F,Gv,nX]
   ·have z':qR ab aa day (r,j)=(j,uw r,[]):=by unfold qR;rw[if_neg (by rw[hf];decide)]
    rw[z'];rfl
  ·rw[h,if_neg (by decide),uQ];rfl)
 rw[take_of_length_le (by rw[length_zipIdx];exact vT _)]at e;exact av rfl (bZ (ρ':=E [] none none none) rfl (bZ (jq (eE (j:=ab.length) (b:=false) (aH [.tup ab] rfl rfl) (by omega)) e) (wI (b:=true) rfl)))
end
def JP {α:Type}{l:List α}{f:α->Bool}(h:∀i,i<l.length->(l[i]?.elim true f)=true):l.all f=true:=by
 rw[all_eq_true];intro x hx;obtain⟨i,hi⟩:=mem_iff_getElem?.mp hx;have:=h i (vV hi).1;rwa [hi]at this
def JQ {α:Type}{l:List α}{f:α->Bool}(h:∃i,i<l.length/\(l[i]?.elim true f)=false):l.all f=false:=by
 obtain⟨i,_,h⟩:=h;cases e:l[i]? with
 |none=>rw[e]at h;cases h
 |some x=>
  rw[e]at h;rw[List.all_eq_false];exact⟨x,vL e,by rw[show f x=false from h];decide⟩
theorem Ch:∀(zs g:LI),((zs.foldl gR g).length=g.length+zs.length)↔(∀z∈zs,z∉g)/\zs.Nodup
 |[],g=>by simp
 |z::zs,g=>by
  rw[foldl_cons];by_cases h:z∈g
  ·have:gR g z=g:=by unfold gR;rw[if_pos h]
   rw[this];have q:=ml zs g;rw[vE];exact⟨λe=>by omega,λe=>absurd h (e.1 z mX)⟩
  ·have:gR g z=g++[z]:=by unfold gR;rw[if_neg h]
   rw[this,vE,show g.length+(zs.length+1)=(g++[z]).length+zs.length by simp;omega,Ch zs];rw[nodup_cons];constructor
   ·rintro⟨h1,h2⟩;refine⟨λy hy=>?_,λhz=>h1 z hz (by simp),h2⟩;rcases vP hy with rfl|hy
    ·exact h
    ·exact λk=>h1 y hy (mem_append_left _ k)
   ·rintro⟨h1,h2,h3⟩;refine⟨λy hy k=>?_,h3⟩;rcases mem_append.mp k with k|k
    ·exact h1 y (mZ _ hy) k
    ·rw[mem_singleton]at k;exact h2 (k ▸ hy)
def Mh (zs:LI):decide (((fy zs).length:Int)<(zs.length:Int)) = !decide zs.Nodup:=by
 have h:=Ch zs [];have l:=jZ zs;unfold fy at l ⊢;by_cases k:zs.Nodup
 ·rw[decide_eq_true k];have:=h.mpr ⟨λ_ _=>by simp,k⟩;simp only[length_nil]at this;exact decide_eq_false (by omega)
 ·rw[decide_eq_false k];refine decide_eq_true ?_;have:¬(zs.foldl gR []).length=zs.length:=λe=>k (h.mp (by rw[length_nil];omega)).2;omega
noncomputable def IW (Q:List Rs)(zs:LI):Bool:=decide zs.Nodup && (zs.all (sJ Q) && Q.all λp=>p.2.2.any (dX zs) == zs.any λy=>decide (y=(p.1:Int)))
def Mi {Q:List Rs}(hw:∀p∈Q,decide (p.2.1 = "office")=false)(hb:∀p∈Q,p.2.2.length<=100)(nd:(Q.map (·.1)).Nodup)(zs:LI)(hz:zs.length<=1000):p5 [Gv Q,lz zs]=sO (IW Q zs):=by
 let E:OB->OB->OB->DL.Env:=λG U M=>[sF (Gv Q),sF (lz zs),G,U,M];have T:bp (f2 Lh (f1 m5 (ah 1)) (fA fx (fV 1 aj))) (E none none none)=some (!decide zs.Nodup):=by
  rw[←Mh zs];refine cP (bw (.int ((fy zs).length:Int)) (.int (zs.length:Int)) ?_ (aH [lz zs] rfl (by simp[lz])) rfl);show(kg (zs.map .int)).bind _=_;rw[Cf,vJ,if_pos (by omega)]
 unfold IW;cases hN:decide zs.Nodup with
 |false=>
  rw[hN]at T;exact av rfl (bE T (ax rfl))
 |true=>
  rw[hN]at T;rw[Bool.true_and];rcases yE (tg:=cB 2) (g:=yD) (d:=.bl false) (b:=false) (λ_ ρ=>∃G,ρ=E G none none) (λi=>zs[i]?.elim true (sJ Q)) (zs.map .int) (E none none none) ⟨none,rfl⟩ (by
   rintro i d ρ hd ⟨G,rfl⟩;rw[vA]at hd;obtain⟨z,Se,rfl⟩:=oY hd;rw[Se];have t:bp (f2 qr (ah 2) (ah 0)) (E (sI z) none none)=some (!sJ Q z):=cP (bw (.int z) (Gv Q) rfl rfl (by rw[←zg];rfl));refine⟨E (sI z) none none,rfl,?_⟩;show(sJ Q z=true/\_)∨(sJ Q z=false/\_);cases h:sJ Q z with
   |true=>rw[h]at t;exact .inl ⟨rfl,_,lf t rfl,_,rfl⟩
   |false=>rw[h]at t;exact .inr ⟨rfl,ko t (ax rfl)⟩)with⟨h1,ρ1,Kd,G,rfl⟩|⟨h1,Kd⟩
  ·rw[vI]at h1;rw[JP h1,Bool.true_and];have O:∀(M:OB)(p:Rs),p∈Q->((p.2.2.any (dX zs) == zs.any λy=>decide (y=(p.1:Int)))=true/\∃Uh,mH (E G (sI (p.1:Int)) M)=some (.nx (E G (sI (p.1:Int)) Uh)))∨((p.2.2.any (dX zs) == zs.any λy=>decide (y=(p.1:Int)))=false/\mH (E G (sI (p.1:Int)) M)=some (.rt (.bl false) false)):=by
    intro M p hp;have hc:=lr (fi:=bV (f2 L4 (ah 0) (ah 3))) (nT:=1) (cap:=[1]) (tg:=cB 0) (fe:=Hl (f2 eD (dZ 0 0) (fS "office")) (f2 sk (f2 bK (ah 0) (f1 nw (fI 1))) (ah 1))) (ρ:=E G (sI (p.1:Int)) M) p.2.2 (wH p.2.1) (λb=>.bl (dX zs b))
     (by
      have e:f2 L4 (ah 0) (ah 3) (E G (sI (p.1:Int)) M)=sF (nX p):=bw (Gv Q) (.int (p.1:Int)) rfl rfl (by
       show(cm (Q.map λp=>nK p.1) (Q.map nX) (nK p.1)).map _=_;rw[zh Q nd p hp];rfl)
      show(f2 L4 _ _ _).bind _=_;rw[e];rfl) (by have:=hb p hp;omega) λb _=>by
      refine⟨[some (wH p.2.1 b,false),sF (lz zs)],rfl,false,?_⟩;unfold dX;rcases b with⟨_|o,n⟩
      ·exact kq (p:=false) (b1:=false) (bw (.str p.2.1) (.str "office") rfl rfl (by simp[of_decide_eq_false (hw p hp)])) λ_=>bw (.int n) (lz zs) rfl rfl (p6 n zs)
      ·exact kq (p:=true) (q:=zs.any λm=>decide (m=n)) (b1:=false) (bw (.str "office") (.str "office") rfl rfl (by simp)) λh=>by cases h
    have e4:=aH (F:=su) [.lst (p.2.2.map λb=>.bl (dX zs b))] (aE hc (fr:=aj) rfl) (any_map _ _);have t:bp (f2 sd (ah 4) (f2 sk (ah 3) (ah 1))) (E G (sI (p.1:Int)) (sO (p.2.2.any (dX zs))))=some (!(p.2.2.any (dX zs) == zs.any λy=>decide (y=(p.1:Int)))):=cP (bw (.bl (p.2.2.any (dX zs))) (.bl (zs.any λy=>decide (y=(p.1:Int)))) rfl (bw (.int (p.1:Int)) (lz zs) rfl rfl (p6 _ zs)) rfl);cases h:(p.2.2.any (dX zs) == zs.any λy=>decide (y=(p.1:Int))) with
    |true=>rw[h]at t;exact .inl ⟨rfl,_,fB (.bl (p.2.2.any (dX zs))) e4 rfl (lf t rfl)⟩
    |false=>rw[h]at t;exact .inr ⟨rfl,fB (.bl (p.2.2.any (dX zs))) e4 rfl (ko t (ax rfl))⟩
   rcases yE (tg:=cB 3) (g:=mH) (d:=.bl false) (b:=false) (λ_ ρ=>∃U M,ρ=E G U M) (λi=>Q[i]?.elim true λp=>p.2.2.any (dX zs) == zs.any λy=>decide (y=(p.1:Int))) (Q.map λp=>.int (p.1:Int)) (E G none none) ⟨_,_,rfl⟩ (by
    rintro i d ρ hd ⟨U,M,rfl⟩;rw[vA]at hd;obtain⟨p,Ui,rfl⟩:=oY hd;rw[Ui];refine⟨E G (sI (p.1:Int)) M,rfl,?_⟩;rcases O M p (vL Ui)with⟨a,Uh,b⟩|⟨a,b⟩
    ·exact .inl ⟨a,_,b,_,_,rfl⟩
    ·exact .inr ⟨a,b⟩)with⟨h2,ρ2,Sf,U,M,rfl⟩|⟨h2,Sf⟩
   ·rw[vI]at h2;rw[JP h2];exact av rfl (a9 T (bZ (gS (ds:=zs.map .int) rfl Kd) (bZ (gS (ds:=Q.map λp=>.int (p.1:Int)) (by show some ((Q.map λp=>nK p.1).map kD)=_;rw[uP];rfl) Sf) (ax rfl))))
   ·rw[vI]at h2;rw[JQ h2];exact av rfl (a9 T (bZ (gS (ds:=zs.map .int) rfl Kd) (FV (Ce (ds:=Q.map λp=>.int (p.1:Int)) (by show some ((Q.map λp=>nK p.1).map kD)=_;rw[uP];rfl) Sf))))
  ·rw[vI]at h1;rw[JQ h1,Bool.false_and];exact av rfl (a9 T (FV (Ce (ds:=zs.map .int) rfl Kd)))
def Ci (a b:LI):df a=df b↔a.Perm b:=by
 constructor
 ·intro h;exact(aR (λn:Int=>[n]) a).symm.trans ((show eP (λn:Int=>[n]) a=eP (λn:Int=>[n]) b from h) ▸ aR (λn:Int=>[n]) b)
 ·intro h;exact ib (λn:Int=>[n]) (λx _ y _ e=>(List.cons.inj e).1) ((aR (λn:Int=>[n]) a).trans h) (eZ (λn:Int=>[n]) a)
def wN (zs:LI)(z:Int):(zs.any λy=>decide (y=z))=decide (z∈zs):=by
 by_cases h:z∈zs
 ·rw[decide_eq_true h,any_eq_true];exact⟨z,h,decide_eq_true rfl⟩
 ·rw[decide_eq_false h,List.any_eq_false];exact λy hy e=>h (of_decide_eq_true e ▸ hy)
def Cj {Q:List Rs}{z:Int}:sJ Q z=true ↔ ∃p∈Q,(p.1:Int)=z:=by
 unfold sJ;rw[any_eq_true];exact⟨λ⟨p,h,e⟩=>⟨p,h,of_decide_eq_true e⟩,λ⟨p,h,e⟩=>⟨p,h,decide_eq_true e⟩⟩
theorem lR:∀(l:List (Nat×List Bs))(S:LN),∃g,g.Sublist (l.map (·.1))/\l.foldl dA S=S++g
 |[],S=>⟨[],.slnil,(uQ S).symm⟩
 |p::l,S=>by
  obtain⟨g,h,e⟩:=lR l (dA S p);rw[foldl_cons,e];unfold dA;split
  ·exact⟨p.1::g,h.cons₂ _,by simp⟩
  ·exact⟨g,h.cons _,rfl⟩
def FZ (K:KL):(cn K).Pairwise λa b=>dS b a=false:=(eZ (λx=>c7 (kA x)) (K.filter λx=>!bf x.1)).imp λ{a b} h=>by
 rw[pb _ _ _ (ww b a)];exact decide_eq_false h
section
variable {ab:LD}(g:∀r∈ab,bY r) (hl:ab.length<=30) (aa:Int)
theorem IX (day:Int)(zs:LI)(z:Int):z∈dY (jz ab aa day) zs ↔ ∃p∈qX ab aa day ab.zipIdx,(p.1:Int)=z/\p.2.2.any (dX zs)=true:=by
 unfold dY;rw[mem_map];constructor
 ·rintro⟨p,hp,rfl⟩;obtain⟨h1,h2⟩:=vN hp;obtain⟨r,M,hk,_,G,hf,e⟩:=IU (ab:=ab) aa h1;refine⟨p,uS ⟨(r,p.1),mem_filter.mpr ⟨(vN hk).1,?_⟩,?_⟩,rfl,h2⟩
  ·rw[vC];exact⟨(vN hk).2,decide_eq_true G⟩
  ·unfold qR;rw[if_pos hf];exact e.symm
 ·rintro⟨p,hp,rfl,hb⟩;obtain⟨x,hx,rfl⟩:=vO hp;obtain⟨h1,h2⟩:=vN hx;rw[vC]at h2;have hf:oU ab aa day x=true:=by
   cases h:oU ab aa day x with
   |true=>rfl
   |false=>unfold qR at hb;rw[if_neg (by rw[h];decide)]at hb;cases hb
  have G:=of_decide_eq_true h2.2;refine⟨qR ab aa day x,mem_filter.mpr ⟨?_,hb⟩,rfl⟩;unfold jz;refine uS ⟨x,mem_filter.mpr ⟨(aR _ _).mem_iff.mpr (mem_filter.mpr ⟨mem_filter.mpr ⟨h1,h2.1⟩,by rw[wJ G];rfl⟩),by rw[vC];exact⟨h2.2,hf⟩⟩,?_⟩;unfold qR;rw[if_pos hf]
theorem uz (day:Int)(zs:LI):(dY (jz ab aa day) zs).Nodup:=by
 unfold dY;have h:(((jz ab aa day).filter λp=>p.2.2.any (dX zs)).map (·.1)).Nodup:=List.Nodup.sublist (List.Sublist.map _ filter_sublist) (D3 aa day);exact pairwise_map.mpr ((pairwise_map.mp h).imp λh e=>h (by omega))
theorem zi (day:Int):((qX ab aa day ab.zipIdx).map (·.1)).Nodup:=by
 have h1:(ab.zipIdx.map (·.2)).Nodup:=by rw[List.zipIdx_map_snd];exact List.nodup_range'
 unfold qX;rw[uP];exact List.Nodup.sublist (List.Sublist.map (λx:D×Nat=>x.2) filter_sublist) h1
theorem Ga (day:Int)(zs:LI):IW (qX ab aa day ab.zipIdx) zs=decide (df zs=df (dY (jz ab aa day) zs)):=by
 have bm:=IX (ab:=ab) aa day zs;have bn:=uz (ab:=ab) aa day zs;have G:=zi (ab:=ab) aa day;generalize dY (jz ab aa day) zs=B at bm bn;generalize qX ab aa day ab.zipIdx=Q at bm G;rw[Bool.eq_iff_iff,decide_eq_true_iff,Ci];unfold IW;rw[vC,vC,decide_eq_true_iff,all_eq_true,all_eq_true];constructor
 ·rintro⟨h1,h2,h3⟩;refine(List.perm_ext_iff_of_nodup h1 bn).mpr λz=>?_;rw[bm];constructor
  ·intro hz;obtain⟨p,hp,rfl⟩:=Cj.mp (h2 z hz);have:=h3 p hp;rw[wN,decide_eq_true hz,beq_true]at this;exact⟨p,hp,rfl,this⟩
  ·rintro⟨p,hp,rfl,hb⟩;have:=h3 p hp;rw[wN,hb]at this;simpa using this
 ·intro h;refine⟨h.nodup_iff.mpr bn,λz hz=>?_,λp hp=>?_⟩
  ·obtain⟨p,hp,e,_⟩:=(bm z).mp (h.mem_iff.mp hz);exact Cj.mpr ⟨p,hp,e⟩
  ·rw[wN,beq_iff_eq,Bool.eq_iff_iff,decide_eq_true_iff,h.mem_iff,bm];constructor
   ·exact λhb=>⟨p,hp,rfl,hb⟩
   ·rintro⟨q,hq,e,hb⟩;rw[←nQ (·.1) G hq hp (by show q.1=p.1;omega)];exact hb
include g in
theorem D5 (day:Int){T:LI}(hT:T.Perm ((fO ab aa day).map λ(n:Nat)=>(n:Int))):df T=df (dY (jz ab aa day) T):=by
 have hm:∀n:Nat,(n:Int)∈T↔n∈fO ab aa day:=λn=>by
  rw[hT.mem_iff,mem_map];exact⟨λ⟨m,h,e⟩=>by rw[show n=m by omega];exact h,λh=>⟨n,h,rfl⟩⟩
 have O:∀b,dX T b=gD (fO ab aa day) b:=λb=>by
  unfold dX gD;congr 1;rw[Bool.eq_iff_iff,any_eq_true,any_eq_true];constructor
  ·rintro⟨y,hy,e⟩;obtain⟨n,hn,rfl⟩:=vO (hT.mem_iff.mp hy);exact⟨n,hn,e⟩
  ·rintro⟨n,hn,e⟩;exact⟨(n:Int),(hm n).mpr hn,e⟩
 have nd:((fO ab aa day).map λ(n:Nat)=>(n:Int)).Nodup:=by
  obtain⟨l',h,e⟩:=lR ((ja ab aa day (cn (ak ab aa))).map λx:D×Nat=>(x.2,fw ab aa x)) [];have h2:(fO ab aa day).Nodup:=by
   unfold fO ge;rw[e,nil_append];refine List.Nodup.sublist h ?_;rw[uP];exact List.Nodup.sublist (List.Sublist.map (λx:D×Nat=>x.2) filter_sublist) (jx (dj ab aa))
  exact pairwise_map.mpr (h2.imp λh e=>h (by omega))
 rw[Ci];refine(List.perm_ext_iff_of_nodup (hT.nodup_iff.mpr nd) (uz aa day T)).mpr λz=>?_;unfold dY;rw[hT.mem_iff,mem_map,mem_map];constructor
 ·rintro⟨n,hn,rfl⟩;rcases rZ ((ja ab aa day (cn (ak ab aa))).map λx:D×Nat=>(x.2,fw ab aa x)) [] n hn with h|⟨p,hp,rfl,hb⟩
  ·cases h
  ·obtain⟨x,hx,rfl⟩:=vO hp;refine⟨(x.2,uw x.1,fw ab aa x),mem_filter.mpr ⟨uS ⟨x,hx,rfl⟩,?_⟩,rfl⟩;obtain⟨b,h1,h2⟩:=any_eq_true.mp hb;exact any_eq_true.mpr ⟨b,h1,(O b).trans h2⟩
 ·rintro⟨p,hp,rfl⟩;obtain⟨h1,h2⟩:=vN hp;obtain⟨x,hx,rfl⟩:=vO h1;refine⟨x.2,?_,rfl⟩;have pw:(ja ab aa day (cn (ak ab aa))).Pairwise λa b=>dS b a=false:=List.Pairwise.filter _ (FZ _);have hK:∀y∈ja ab aa day (cn (ak ab aa)),ab[y.2]? = some y.1:=λy hy=>b7 (vN ((aR _ _).mem_iff.mp (vN hy).1)).1;obtain⟨b,hb,G⟩:=any_eq_true.mp h2;rw[O]at G;unfold fO ge at G ⊢;generalize ja ab aa day (cn (ak ab aa))=l at hx pw hK G;obtain⟨A,B,rfl⟩:=List.append_of_mem hx;rw[uW,foldl_append,uY]at G ⊢;generalize (A.map λx=>(x.2,fw ab aa x)).foldl dA []=S at G ⊢;rw[foldl_cons];refine wK _ _ ?_;have:(fw ab aa x).any (gD S)=true:=by
   refine any_eq_true.mpr ⟨b,hb,?_⟩;unfold gD at G ⊢;rcases b with⟨_|o,c⟩
   ·rw[Option.isSome_none,Bool.false_or,any_eq_true]at G ⊢;obtain⟨m,hm,e⟩:=G;refine⟨m,?_,e⟩;obtain⟨m',q,e',hq,_,M⟩:=A0 (ab:=ab) aa g (hK x hx) hb rfl;have em:m'=m:=by have h3:=of_decide_eq_true e;have h4:c=(m':Int):=e';omega
    subst em;rcases nW _ _ _ hm with h|h
    ·exact h
    ·exfalso;obtain⟨u,hu,eu⟩:=vO h;obtain⟨y,hy,rfl⟩:=vO (show u∈(x::B).map λx=>(x.2,fw ab aa x)from hu);have eu:y.2=m':=eu;have U:=hK y (mY _ hy);rw[eu,hq]at U;have ey:y=(q,m'):=Prod.ext (vK U).symm eu;rw[←ey]at M;rcases vP hy with rfl|hy
     ·unfold dS at M;have:=of_decide_eq_true M;dsimp only at this;omega
     ·have:=(pairwise_cons.mp (List.pairwise_append.mp pw).2.1).1 y hy;rw[this]at M;cases M
   ·rfl
  unfold dA;rw[if_pos this];exact mY _ (by simp)
end
def wO {ρ:DL.Env}{i:Nat}{d:D}(h:ρ[i]? = some (sF d)):unown1 ρ i=ρ:=by unfold unown1;rw[h]
def Mj {ρ:DL.Env}{i:Nat}{d:D}{g:FS}(h:ρ[i]? = some (sF d)):Go [i] g ρ=g ρ:=by show g (unown1 ρ i)=_;rw[wO h]
def O5 {ρ:DL.Env}{i j:Nat}{d d':D}{g:FS}(h:ρ[i]? = some (sF d))(h':ρ[j]? = some (sF d')):Go [i,j] g ρ=g ρ:=by show g (unown1 (unown1 ρ i) j)=_;rw[wO h,wO h']
def IY {x:Int}{m:Int}(h:0<m):bA (.int x) (.int m)=sI (x % m):=by
 show(if decide ((0:Int)<m)=true then _ else _)=_;rw[if_pos (decide_eq_true h)]
def Gb (ns:LI){ρ:DL.Env}{j k:Nat}{fe:FE}(e:ah j ρ=sL (ns.map .int))(ek:fe ρ=sI (k:Int)):∃c:Int,fA bB (fV j (ag fe aj)) ρ=sI c:=by
 obtain⟨c,g,_⟩:=fL ns k;exact⟨c,aH [.lst (ns.map .int),.int (k:Int)] (bS e (bS ek rfl)) g⟩
def Gc (ns T:LI)(hT:T.length<=60):∃z:LI,kT [.lst (ns.map .int),lz T]=lT (z.map .int)/\z.length=T.length:=by
 let E:LI->OB->DL.Env:=λz G=>[sL (ns.map .int),sF (lz T),lT (z.map .int),G];obtain⟨ρ',e,z,G,rfl,hz⟩:=jp (tg:=cB 3) (g:=rb) T.length (λi ρ=>∃z G,ρ=E z G/\z.length=i) (E [] none) ⟨[],none,rfl,rfl⟩ (by
  rintro i ρ hi ⟨z,G,rfl,hz⟩;obtain⟨c,O⟩:=Gb ns (ρ:=E z (sI (i:Int))) (j:=0) (k:=120+i) (fe:=f2 aV (fI 120) (ah 3)) rfl (bw (.int 120) (.int (i:Int)) rfl rfl rfl);have hm:=mod_lt (x:=c) (m:=(i:Int)+1) (by omega);obtain⟨t,U⟩:∃t,T[i]? = some t:=⟨_,vU hi⟩;have M:(T.map D.int)[i]? = some (.int t):=by rw[vA,U];rfl
  have ek:f2 bA (fA bB (fV 0 (ag (f2 aV (fI 120) (ah 3)) aj))) (f2 aV (ah 3) (fI 1)) (E z (sI (i:Int)))=sI (c % ((i:Int)+1)):=bw (.int c) (.int ((i:Int)+1)) O (bw (.int (i:Int)) (.int 1) rfl rfl rfl) (IY (by omega));have ev:f2 bK (ah 1) (ah 3) (E z (sI (i:Int)))=sI t:=bw (lz T) (.int (i:Int)) rfl rfl (by simp[lz,cy M]);generalize c % ((i:Int)+1)=k at hm ek;refine⟨E z (sI (i:Int)),E (z.take k.toNat++t::z.drop k.toNat) (sI (i:Int)),rfl,.inl ?_,_,_,rfl,?_⟩
  ·show((f2 bA _ _ (E z (sI (i:Int)))).bind _)=_;rw[ek,vJ,ev,vJ];refine(if_pos (c:=0<=k/\k<=(z.map D.int).length/\(z.map D.int).length<1000/\bg (.int t)=true) ⟨hm.1,by rw[vI];omega,by rw[vI];omega,rfl⟩).trans ?_;simp[E]
  ·rw[uZ,vE,length_take,length_drop];omega)
 exact⟨z,av rfl (cz (ds:=[]) rfl rfl (bZ (jq (eE (j:=T.length) (b:=false) (aH [lz T] rfl (by simp[lz])) (by omega)) e) (m7 rfl))),hz⟩
def Mk (z:LI)(a c:OI):∃y:LI,pN (z.map .int) a c=y.map .int/\y.length<=z.length:=by
 unfold pN;rw[←List.map_drop,←List.map_take];exact⟨_,rfl,by rw[length_take,length_drop];omega⟩
def Ck {f:FE}{o h:FO}{ρ:DL.Env}{z:LI}{b:Bool}{a c:OI}(e:f ρ=some (lz z,b))(g:o ρ=some a)(G:h ρ=some c):∃y:LI,wS f o h ρ=some (lz y,true)/\y.length<=z.length:=by
 obtain⟨y,M,h1⟩:=Mk z a c;refine⟨y,?_,h1⟩;unfold wS;rw[e,vJ,g,vJ,G,vJ];show some (D.lst (pN (z.map .int) a c),true)=_;rw[M];rfl
def UA (a b:Int):sd (.int a) (.int b)=sO (!decide (a=b)):=by
 unfold sd;rw[if_pos ⟨rfl,rfl⟩,cI]
def JR {ρ:DL.Env}{fe:FE}{j:Nat}{z:LI}{b:Bool}{x:Int}(e:fe ρ=some (lz z,b))(hz:z.length<=900)(ex:∀d,cB 0 d (dB 1 [j] ρ)=some [sF d,sI x])(g:ah j ρ=sI x):∃y:LI,f2 aV (bD (bV fe) 1 [j] (cB 0) (bp (f2 sd (ah 0) (ah 1))) (ah 0)) (fA bv (fV j aj)) ρ=some (lz y,true)/\y.length<=z.length+1:=by
 have hc:=gz (fi:=bV fe) (nT:=1) (cap:=[j]) (tg:=cB 0) (c:=bp (f2 sd (ah 0) (ah 1))) (fe:=ah 0) (ρ:=ρ) z .int (λm=>!decide (m=x)) .int (by show(fe ρ).bind _=_;rw[e];rfl) (by omega) λm _=>⟨_,ex (.int m),cP (bw (.int m) (.int x) rfl rfl (UA m x)),λ_=>⟨false,rfl⟩⟩;have hl:=vM (λm=>!decide (m=x)) z;exact⟨_,IS (x:=z.filter λm=>!decide (m=x)) (y:=[x]) hc (QI g) (by rw[length_singleton];omega),by rw[uZ,length_singleton];omega⟩
def Gd (ns T:LI)(hT:T.length<=30)(n:Nat)(h0:0<n)(hn:n<=60):∃(L:List LI)(b:Bool),kU [.lst (ns.map .int),lz T,.int (n:Int)]=some (.lst (L.map lz),b)/\∀z∈L,z.length<64:=by
 obtain⟨zm,em,hm⟩:=Gc ns T (by omega);let E:List LI->OB->OB->OB->DL.Env:=λL v4 U O=>[sL (ns.map .int),sF (lz T),sI (n:Int),lT (L.map lz),v4,U,O];have WV:∀L v4 U O,fA fx (fV 1 aj) (E L v4 U O)=sI T.length:=λL v4 U O=>aH [lz T] rfl (by simp[lz]);obtain⟨ρ1,Kd,L1,v4,U,O,rfl,PM,WW⟩:=jp (tg:=cB 4) (g:=rd) 4 (λi ρ=>∃(L:List LI)(v4 U O:OB),ρ=E L v4 U O/\L.length=2+4*i/\∀z∈L,z.length<64) (E [T,zm] none none none) ⟨_,_,_,_,rfl,rfl,by intro z hz;simp at hz;rcases hz with rfl|rfl<;>omega⟩ (by
  rintro i ρ hi ⟨L,v4,U,O,rfl,hL,hz⟩;obtain⟨c1,e1⟩:=Gb ns (ρ:=E L (sI (i:Int)) U O) (j:=0) (k:=92+i) (fe:=f2 aV (fI 92) (ah 4)) rfl (bw (.int 92) (.int (i:Int)) rfl rfl rfl);obtain⟨x,ex⟩:∃x:Int,c1 % ((n:Int)+4) - 2=x:=⟨_,rfl⟩;have s1:f2 vh (f2 bA (fA bB (fV 0 (ag (f2 aV (fI 92) (ah 4)) aj))) (f2 aV (ah 2) (fI 4))) (fI 2) (E L (sI (i:Int)) U O)=sI x:=bw (.int (c1 % ((n:Int)+4))) (.int 2) (bw (.int c1) (.int ((n:Int)+4)) e1 (bw (.int (n:Int)) (.int 4) rfl rfl rfl) (IY (by omega))) rfl (by rw[←ex];rfl);obtain⟨c2,e2⟩:=Gb ns (ρ:=E L (sI (i:Int)) (sI x) O) (j:=0) (k:=96+i) (fe:=f2 aV (fI 96) (ah 4)) rfl (bw (.int 96) (.int (i:Int)) rfl rfl rfl);obtain⟨k,ek⟩:∃k:Int,c2 % ((T.length:Int)+1)=k:=⟨_,rfl⟩;have s2:f2 bA (fA bB (fV 0 (ag (f2 aV (fI 96) (ah 4)) aj))) (f2 aV (fA fx (fV 1 aj)) (fI 1)) (E L (sI (i:Int)) (sI x) O)=sI k:=bw (.int c2) (.int ((T.length:Int)+1)) e2 (bw (.int T.length) (.int 1) (WV _ _ _ _) rfl rfl) (by rw[←ek];exact IY (by omega));let F:List LI->DL.Env:=λL=>E L (sI (i:Int)) (sI x) (sI k);have dn:∃y:LI,(∀L,f2 aV (wS (ah 1) fG (fu (ah 6))) (wS (ah 1) (fu (f2 aV (ah 6) (fI 1))) fG) (eO (F L))=some (lz y,true))/\y.length<=60:=by
   obtain⟨y1,h1,l1⟩:=Ck (f:=ah 1) (o:=fG) (h:=fu (ah 6)) (ρ:=eO (F [])) (z:=T) (b:=false) (a:=none) (c:=some k) rfl rfl rfl;obtain⟨y2,h2,l2⟩:=Ck (f:=ah 1) (o:=fu (f2 aV (ah 6) (fI 1))) (h:=fG) (ρ:=eO (F [])) (z:=T) (b:=false) (a:=some (k+1)) (c:=none) rfl rfl rfl;exact⟨y1++y2,λL=>IS h1 h2 (by omega),by rw[uZ];omega⟩
  obtain⟨y,ey,hy⟩:=dn;obtain⟨u,eu,hu⟩:=JR (ρ:=eO (F [])) (fe:=ah 1) (j:=5) (z:=T) (b:=false) (x:=x) rfl (by omega) (λ_=>rfl) rfl;obtain⟨w,ew,hw⟩:=JR (ρ:=eO (F [])) (fe:=f2 aV (wS (ah 1) fG (fu (ah 6))) (wS (ah 1) (fu (f2 aV (ah 6) (fI 1))) fG)) (j:=5) (z:=y) (b:=true) (x:=x) (ey _) (by omega) (λ_=>rfl) rfl;have cf:∀k:Nat,∃c:Int,bB [.lst (ns.map .int),.int k]=sI c:=λk=>let ⟨c,e,_⟩:=fL ns k;⟨c,e⟩;have hs:∃v:LI,f1 qB (bD (cU (f2 aV (ah 4) (fI 1))) 1 [2,0,4] (cB 0) fE (f2 bA (fA bB (fV 2 (ag (f2 aV (f2 aV (fI 100) (f2 fH (fI 4) (ah 3))) (ah 0)) aj))) (ah 1))) (eO (F []))=some (lz v,true)/\v.length<64:=by
   have hc:=lr (fi:=cU (f2 aV (ah 4) (fI 1))) (nT:=1) (cap:=[2,0,4]) (tg:=cB 0) (fe:=f2 bA (fA bB (fV 2 (ag (f2 aV (f2 aV (fI 100) (f2 fH (fI 4) (ah 3))) (ah 0)) aj))) (ah 1)) (ρ:=eO (F [])) (List.range (i+1)) (λ(j:Nat)=>.int (0+(j:Int))) (λj=>.int ((cf (100+4*i+j)).choose % (n:Int))) (eE (j:=i+1) (b:=false) (by simp[F,E,eO]) (by omega)) (by rw[length_range];omega) λj hj=>by
    have hj:=mem_range.mp hj;refine⟨[sI (0+(j:Int)),sI (n:Int),sL (ns.map .int),sI (i:Int)],rfl,false,bw (.int (cf (100+4*i+j)).choose) (.int (n:Int)) (aH [.lst (ns.map .int),.int ((100+4*i+j:Nat):Int)] (bS rfl (bS ?_ rfl)) (cf _).choose_spec) rfl (IY (by omega))⟩;refine bw (.int ((100+4*i:Nat):Int)) (.int (0+(j:Int))) (bw (.int 100) (.int (4*(i:Int))) rfl (bw (.int 4) (.int i) rfl rfl ?_) ?_) rfl ?_
    ·have : -18446744073709551616<(i:Int)/\(i:Int)<18446744073709551616:=by omega
     simp[this]
    ·show some (D.int (100+4*(i:Int)),false)=_;congr 3
    ·show some (D.int (((100+4*i:Nat):Int)+(0+(j:Int))),false)=_;congr 3;omega
   obtain⟨cs,MN⟩:∃cs:LI,(List.range (i+1)).map (λj=>(cf (100+4*i+j)).choose % (n:Int))=cs:=⟨_,rfl⟩;have Gy:cs.length=i+1:=by rw[←MN];simp
   refine⟨df (fy cs),?_,?_⟩
   ·show(bD _ _ _ _ _ _ (eO (F []))).bind _=_;rw[hc,vJ];have:(List.range (i+1)).map (λj=>D.int ((cf (100+4*i+j)).choose % (n:Int)))=cs.map .int:=by rw[←MN,uP];rfl
    rw[this];show(kg (cs.map .int)).bind _=_;rw[Cf,vJ,if_pos (by omega)];rfl
   ·have:=jZ cs;rw[show(df (fy cs)).length=(fy cs).length from(aR _ _).length_eq];omega
  obtain⟨v,ev,hv⟩:=hs;refine⟨E L (sI (i:Int)) U O,F (L++[y]++[u]++[w]++[v]),rfl,.inl (fB (.int x) s1 rfl (fB (.int k) s2 rfl (bZ (ρ':=F (L++[y])) ?_ (bZ (ρ':=F (L++[y]++[u])) ?_ (bZ (ρ':=F (L++[y]++[u]++[w])) ?_ ?_))))),L++[y]++[u]++[w]++[v],_,_,_,rfl,by simp;omega,?_⟩
  ·exact(Mj (ρ:=F L) rfl).trans (IT rfl (ey L) (by omega))
  ·exact(Mj (ρ:=F (L++[y])) rfl).trans (IT rfl eu (by simp;omega))
  ·exact(O5 (ρ:=F (L++[y]++[u])) rfl rfl).trans (IT rfl ew (by simp;omega))
  ·exact(Mj (ρ:=F (L++[y]++[u]++[w])) rfl).trans (IT rfl ev (by simp;omega))
  ·intro q hq;simp only[mem_append,mem_singleton]at hq;rcases hq with (((h|rfl)|rfl)|rfl)|rfl
   ·exact hz q h
   ·omega
   ·omega
   ·omega
   ·exact hv)
 obtain⟨a1,WX,XJ⟩:=Ck (f:=ah 1) (o:=fG) (h:=fu (fI 1)) (ρ:=E L1 v4 U O) (z:=T) (b:=false) (a:=none) (c:=some 1) rfl rfl rfl;obtain⟨a2,WY,XM⟩:=Ck (f:=ah 1) (o:=fu (f1 nw (fI 1))) (h:=fG) (ρ:=E L1 v4 U O) (z:=T) (b:=false) (a:=some (-1)) (c:=none) rfl rfl rfl;have eb:f2 aV (ah 3) (fA bv (ag (f2 aV (ah 1) (wS (ah 1) fG (fu (fI 1)))) (ag (f2 aV (wS (ah 1) (fu (f1 nw (fI 1))) fG) (ah 1)) aj))) (E L1 v4 U O)=some (.lst ((L1++[T++a1,a2++T]).map lz),true):=O0 (b:=false) rfl (Oz (IS (b:=false) rfl WX (by omega)) (IS (c:=false) WY rfl (by omega))) (by simp;omega);obtain⟨M,hM⟩:∃M,L1++[T++a1,a2++T]=M:=⟨_,rfl⟩;have WZ:M.length=20:=by rw[←hM];simp[PM]
 have Xa:∀z∈M,z.length<64:=by
  intro z hz;rw[←hM]at hz;simp only[mem_append,mem_cons,not_mem_nil,or_false]at hz;rcases hz with h|rfl|rfl
  ·exact WW z h
  ·rw[uZ];omega
  ·rw[uZ];omega
 have Xb:tj (.lst (M.map lz))=false:=by
  cases M with
  |nil=>cases WZ
  |cons q M=>rfl
 rw[hM]at eb;let G:DL.Env:=(unown (E L1 v4 U O)).set 3 (sL (M.map lz));have ec:=gz (fi:=cU (ah 2)) (nT:=1) (cap:=[1]) (tg:=cB 0) (c:=bp (f2 eM (ah 0) (ah 1))) (fe:=ah 0) (ρ:=G) (List.range n) (λ(j:Nat)=>.int (0+(j:Int))) (λj=>!T.any λy=>decide (y=0+(j:Int))) (λj=>.int (0+(j:Int))) (eE (j:=n) (b:=false) rfl (by omega)) (by rw[length_range];omega) λj _=>⟨[sI (0+(j:Int)),sF (lz T)],rfl,cP (bw (.int (0+(j:Int))) (lz T) rfl rfl (FU _ T)),λ_=>⟨false,rfl⟩⟩;obtain⟨o,ho⟩:∃o:LI,((List.range n).filter λ(j:Nat)=>!T.any λy=>decide (y=0+(j:Int))).map (λ(j:Nat)=>0+(j:Int))=o:=⟨_,rfl⟩;have OW:o.length<=60:=by
  rw[←ho,vI];exact vR (vM _ _) (by rw[length_range];exact hn)
 have Xc:bD (cU (ah 2)) 1 [1] (cB 0) (bp (f2 eM (ah 0) (ah 1))) (ah 0) G=some (lz o,true):=by
  rw[ec,←ho];unfold lz;rw[uP];rfl
 refine⟨M++[[],o],true,av rfl (bZ (ρ':=E [T,zm] none none none) ?_ (bZ (jq (eE (j:=4) (b:=false) rfl (by decide)) Kd) (Oj eb rfl (.inr Xb) (ax (O0 (b:=false) rfl (Oz (b:=true) rfl Xc) (by simp;omega)))))),?_⟩
 ·show yv 3 _ [sL (ns.map .int),sF (lz T),sI (n:Int),none,none,none,none]=_;unfold yv;rw[show fV 1 (ag (fA kT (fV 0 (fV 1 aj))) aj) (eO [sL (ns.map .int),sF (lz T),sI (n:Int),none,none,none,none])=some [lz T,lz zm]from bS rfl (aE (aH [.lst (ns.map .int),lz T] rfl em) rfl),vJ];exact(if_pos (show _<=sizeLine from(by decide:2<=sizeLine))).trans rfl
 ·intro z hz;simp only[mem_append,mem_cons,not_mem_nil,or_false]at hz;rcases hz with h|rfl|rfl
  ·exact Xa z h
  ·simp
  ·omega
def A1 (ab:LD)(aa day:Int):(fO ab aa day).length<=ab.length:=by
 obtain⟨g,h,e⟩:=lR ((ja ab aa day (cn (ak ab aa))).map λx:D×Nat=>(x.2,fw ab aa x)) [];unfold fO ge;rw[e,nil_append];refine vR h.length_le ?_;rw[vI,vI];refine vR (vM _ _) ?_;unfold cn;rw[(aR _ _).length_eq];exact vR (vM _ _) (cu ab aa)
def UB (a:Bool):sd (.bl a) (.bl a)=sO false:=by cases a<;>rfl
def law_true (ns:LI)(_:ns.length<=63):∃b,F_law [.lst (ns.map .int)]=some (.bl true,b):=by
 obtain⟨c0,e0,h0⟩:=fL ns 0;obtain⟨c3,e3,h3⟩:=fL ns 3;obtain⟨c4,e4,h4⟩:=fL ns 4;obtain⟨G,Uj,XN⟩:=fL ns 90;obtain⟨zs,ez,hz,Xd⟩:=F3 c0 h0;have Uk:=mod_lt (x:=c3) (m:=3) (by decide);obtain⟨U,XO,Xe⟩:=mR (ns:=[1,1,500]) (i:=c3 % 3) Uk.1 Uk.2;obtain⟨ab,erw,M,WS,Xf,M0⟩:=ID ns zs hz U;have Xg:=mod_lt (x:=c3 / 3) (m:=13) (by decide);have XQ:=mod_lt (x:=c4) (m:=3) (by decide);have Xh:=mod_lt (x:=G / 2) (m:=13) (by decide);have PX:=mod_lt (x:=G) (m:=2) (by decide);obtain⟨aa,Pq,Xi⟩:=mR (ns:=[9999,c3 / 3 % 13*U]) (i:=c4 % 3 / 2) (by omega) (by simp;omega);obtain⟨day,XR,Xj⟩:=mR (ns:=[9999,G / 2 % 13*U]) (i:=G % 2) (by omega) (by simp;omega);have Pu:bg (.tup ab)=true:=by simp[bW λd hd=>(M d hd).flat]
 have hn:((bM (ak ab aa)).map (ay 0)).Nodup:=by
  refine List.Nodup.sublist (FQ ab aa) ?_;rw[M0];refine List.Nodup.sublist (take_sublist _ _) ?_;obtain⟨x,hx⟩:∃x,zs[5]? = some x:=⟨_,vU (by omega)⟩;obtain⟨y,hy⟩:∃y,zs[6]? = some y:=⟨_,vU (by omega)⟩;have e:zs.drop 5=[x,y]:=by
   refine ext_getElem? λj=>?_;rw[getElem?_drop];match j with
   |0=>exact hx
   |1=>exact hy
   |j+2=>rw[getElem?_eq_none (by omega)];rfl
  rw[e];simp[Xd x y hx hy]
 have ho:(cn (ak ab aa)).length<=60:=by
  unfold cn;rw[(aR _ _).length_eq];exact vR (vM _ _) (vR (cu ab aa) (by omega))
 obtain⟨T,hT⟩:∃T,df ((fO ab aa day).map λ(n:Nat)=>(n:Int))=T:=⟨_,rfl⟩;have Ul:T.Perm ((fO ab aa day).map λ(n:Nat)=>(n:Int)):=by rw[←hT];exact aR _ _
 have eS:=zf M (by omega) aa hn ho day;have eS:jH [.tup ab,.int aa,.int day]=lT (T.map .int):=by rw[eS,←hT];rfl
 have RF:T.length<=30:=by
  rw[Ul.length_eq,vI];exact vR (A1 ab aa day) (by omega)
 obtain⟨L,bL,eL,hL⟩:=Gd ns T RF ab.length Xf (by omega);have eB:=FY M (by omega) aa hn ho day;have hQ:∀p∈qX ab aa day ab.zipIdx,decide (p.2.1 = "office")=false/\p.2.2.length<=100:=λp hp=>by
  obtain⟨x,_,rfl⟩:=vO hp;refine⟨Az _,?_⟩;unfold qR;dsimp only;split
  ·exact vR (rY (by omega) aa x) (by decide)
  ·exact uN _
 have Xk:∀z:LI,z.length<64->p5 [Gv (qX ab aa day ab.zipIdx),lz z]=jt [.tup ab,.int aa,.int day,lz z]:=λz hz=>by
  rw[Mi (λp hp=>(hQ p hp).1) (λp hp=>(hQ p hp).2) (zi aa day) z (by omega),wM M (by omega) aa hn ho day z hz,Ga]
 obtain⟨Q,Sg⟩:∃Q,Gv (qX ab aa day ab.zipIdx)=Q:=⟨_,rfl⟩;have Xl:bg Q=false:=by rw[←Sg];rfl
 rw[Sg]at eB;let W:OB->OB->OB->DL.Env:=λv8 v9 O=>[sL (ns.map .int),sL (zs.map .str),sI U,sT ab,sI aa,sI day,sF (lz T),sF Q,v8,v9,O];obtain⟨ρ1,Kd,v8,v9,O,rfl⟩:=ig (tg:=cB 8) (g:=Fj) (λ_ ρ=>∃v8 v9 O,ρ=W v8 v9 O) (L.map lz) (W none none none) ⟨_,_,_,rfl⟩ (by
  rintro i d ρ hd ⟨v8,v9,O,rfl⟩;rw[vA]at hd;obtain⟨z,Se,rfl⟩:=oY hd;have Um:=hL z (vL Se);have es:=wM M (by omega) aa hn ho day z Um;have ed:=Xk z Um;rw[es,Sg]at ed;generalize decide (df z=df (dY (jz ab aa day) z))=b at es ed;refine⟨W (sF (lz z)) v9 O,W (sF (lz z)) (lT (z.map .int)) (sO b),rfl,.inl (cz (ds:=z.map .int) (aH [lz z] rfl rfl) (wL _) (fB (.bl b) (aH [.tup ab,.int aa,.int day,lz z] rfl es) rfl (lf (cL (p:=false) (q:=false) (cx (p:=true) (cP (aH [.bl b,.ty "bool"] rfl (by cases b<;>rfl)))) λ_=>cL (p:=false) (q:=false) (cP (bw (.bl b) (.bl b) rfl (aH [Q,lz z] rfl ed) (UB b))) λ_=>Am (b:=false) (bw (lz z) (lz z) rfl rfl (FN (QJ z)))) rfl))),_,_,_,rfl⟩)
 have iC:=wM M (by omega) aa hn ho day T (by omega);rw[decide_eq_true (D5 M aa day Ul)]at iC;refine⟨false,av rfl (cz (ds:=zs.map .str) (aH [.int c0] (aE (aH [.lst (ns.map .int),.int ((0:Nat):Int)] rfl e0) rfl) ez) (dR zs) (fB (.int U) ?_ rfl (fB (.tup ab) (aH [.lst (ns.map .int),.lst (zs.map .str),.int U,.int 14] rfl erw) Pu (fB (.int aa) ?_ rfl (fB (.int day) ?_ rfl (cz (ds:=T.map .int) (aH [.tup ab,.int aa,.int day] rfl eS) (wL _) (Oj (aH [.tup ab,.int aa,.int day] rfl eB) Xl (.inl rfl) (bZ (ρ':=W v8 v9 O) ?_ (ax (aH [.tup ab,.int aa,.int day,lz T] rfl iC))))))))))⟩
 ·exact gH (x:=.lst (([1,1,500]:LI).map .int)) (y:=.int (c3 % 3)) (b1:=true) (b2:=false) (by simp[sizeLine]) (bw (.int c3) (.int 3) (aH [.lst (ns.map .int),.int ((3:Nat):Int)] rfl e3) rfl (by simp)) Xe
 ·exact gH (x:=.lst (([9999,c3 / 3 % 13*U]:LI).map .int)) (y:=.int (c4 % 3 / 2)) (b1:=true) (b2:=false) (aH [.int 9999,.int (c3 / 3 % 13*U)] (bS rfl (bS (bw (.int (c3 / 3 % 13)) (.int U) (bw (.int (c3 / 3)) (.int 13) (bw (.int c3) (.int 3) (aH [.lst (ns.map .int),.int ((3:Nat):Int)] rfl e3) rfl (by simp)) rfl (by simp)) rfl (nS (by omega))) rfl)) (ga _ (by simp))) (bw (.int (c4 % 3)) (.int 2) (bw (.int c4) (.int 3) (aH [.lst (ns.map .int),.int ((4:Nat):Int)] rfl e4) rfl (by simp)) rfl (by simp)) Xi
 ·exact gH (x:=.lst (([9999,G / 2 % 13*U]:LI).map .int)) (y:=.int (G % 2)) (b1:=true) (b2:=false) (aH [.int 9999,.int (G / 2 % 13*U)] (bS rfl (bS (bw (.int (G / 2 % 13)) (.int U) (bw (.int (G / 2)) (.int 13) (bw (.int G) (.int 2) (aH [.lst (ns.map .int),.int ((90:Nat):Int)] rfl Uj) rfl (by simp)) rfl (by simp)) rfl (nS (by omega))) rfl)) (ga _ (by simp))) (bw (.int G) (.int 2) (aH [.lst (ns.map .int),.int ((90:Nat):Int)] rfl Uj) rfl (by simp)) Xj
 ·refine(O5 (ρ:=W none none none) (i:=3) (j:=6) rfl rfl).trans (gS (ds:=L.map lz) ?_ Kd);show(fA kU _ (eO (W none none none))).bind _=_;rw[aH [.lst (ns.map .int),lz T,.int (ab.length:Int)] (bS rfl (bS rfl (bS (aH [.tup ab] rfl rfl) rfl))) eL];rfl
end Lw
namespace Lw
open PySem PySem.Spec PyProof.Rows L2 DL
noncomputable def eV (i:Nat):Stmt:=PySem.Challenge.pw_sealchain_k36_lists_that_are_shut.main.body.getD i (.Pass ⟨0,0,0,0⟩)
structure Tx (w:World)(K:Frag)(mg:Str->Option Value):Prop where
 hX:∃h,K.In h/\h.Ns mainGlobals mg
 d0:du K "word_of" (eV 7)
 d1:du K "part_of" (eV 8)
 d2:du K "day_of" (eV 9)
 d3:du K "heard" (eV 11)
 d4:du K "rank" (eV 13)
 d5:du K "in_order" (eV 15)
 d6:du K "by_office" (eV 27)
 d7:du K "roots" (eV 16)
 d8:du K "is_known" (eV 12)
 d9:du K "tells" (eV 19)
 d10:du K "told_of" (eV 20)
 d11:du K "lives" (eV 21)
 d12:du K "has_seal" (eV 22)
 d13:du K "is_sound" (eV 23)
 d14:du K "lies_in" (eV 1)
 d15:du K "is_alive" (eV 25)
 d16:du K "by_since" (eV 26)
 d17:du K "chief_of" (eV 28)
 d18:du K "holder_by" (eV 29)
 d19:du K "is_held_by" (eV 30)
 d20:du K "is_first_death" (eV 31)
 d21:du K "counts" (eV 32)
 d22:du K "new_claim" (eV 33)
 d23:du K "ended" (eV 34)
 d24:du K "after_choice" (eV 35)
 d25:du K "inherited" (eV 36)
 d26:du K "after_death" (eV 37)
 d27:du K "claims" (eV 38)
 d28:du K "is_paper" (eV 41)
 d29:du K "is_leave" (eV 42)
 d30:du K "is_borne" (eV 43)
 d31:du K "covers" (eV 4)
 d32:du K "reach_bar" (eV 48)
 d33:du K "office_bar" (eV 49)
 d34:du K "office_bases" (eV 52)
 d35:du K "ends_within" (eV 3)
 d36:du K "is_within" (eV 2)
 d37:du K "is_ahead" (eV 14)
 d38:du K "leave_bar" (eV 50)
 d39:du K "leaves_to" (eV 51)
 d40:du K "leave_bases" (eV 53)
 d41:du K "copy_bases" (eV 54)
 d42:du K "bases_by" (eV 55)
 d43:du K "may_call" (eV 44)
 d44:du K "calls_in" (eV 45)
 d45:du K "calls_by" (eV 46)
 d46:du K "is_fit" (eV 57)
 d47:du K "links" (eV 58)
 d48:du K "bears" (eV 59)
 d49:du K "stood" (eV 60)
 d50:du K "standing" (eV 61)
 d51:du K "is_shut" (eV 63)
 d52:du K "_law_cell" (eV 65)
 d53:du K "_law_names" (eV 66)
 d54:du K "_law_stretch" (eV 67)
 d55:du K "_law_deed" (eV 68)
 d56:du K "_law_rows" (eV 69)
 d57:du K "calls" (eV 47)
 d58:du K "bases" (eV 56)
 d59:du K "_law_bearers" (eV 70)
 d60:du K "_law_due" (eV 71)
 d61:du K "_law_mixed" (eV 72)
 d62:du K "_law_lists" (eV 73)
 d63:du K "law" (eV 74)
 n0:mg "any" = none
 n1:mg "bool" = none
 n2:mg "dict" = none
 n3:mg "enumerate" = none
 n4:mg "int" = none
 n5:mg "isinstance" = none
 n6:mg "len" = none
 n7:mg "list" = none
 n8:mg "max" = none
 n9:mg "min" = none
 n10:mg "range" = none
 n11:mg "set" = none
 n12:mg "sorted" = none
 n13:mg "tuple" = none
 k0:KC K mg "PAPERS" yz
 k1:KD w K mg "PARTS" gT
 k2:KC K mg "SEALINGS" ii
 l5:Ab K "in_order"
 l12:Ab K "has_seal"
 l20:Ab K "is_first_death"
 l42:Ab K "bases_by"
section
variable {P:Program}{w:World}{K:Frag}{mg:SV}{base:Heap}(T:Tx w K mg)
include T
theorem f0:Fn P w K mg base 1 "word_of" aK:=T.d0.fq T.hX tY ["row"] 1 λnd g hu=>
  (bj (aS (bJ 0) au))
theorem f1:Fn P w K mg base 2 "part_of" aq:=T.d1.fq T.hX tZ ["row","part"] 2 λnd g hu=>
  (bj (aS (bJ 0) (aw aM au (HJ T.k1 (a7 (f0 T) g) (af 1)))))
theorem f2:Fn P w K mg base 3 "day_of" aP:=T.d2.fq T.hX y0 ["row"] 1 λnd g hu=>
  (ao (cw (aI (cJ hu) (a7 (f0 T) g) a8) eJ)
   (bj (a7 (f1 T) g)))
theorem f3:Fn P w K mg base 1 "heard" cA:=T.d3.fq T.hX B4 ["book","known"] 2 λnd g hu=>
  (bj (fR ["number","row","known"] (HE T.n3 (af 0)) (dH (aI mh (bJ 1) (af 2))) (af 0)))
theorem f4:Fn P w K mg base 4 "rank" fj:=T.d4.fq T.hX Fi ["book","number"] 2 λnd g hu=>
  (bj (aY (ai (aZ (f2 T) g (ai (aS (af 0) (af 1)) am)) (aD 1 am))))
theorem f5:Fn P w K mg base 8 "in_order" dL:=T.d5.fqL T.hX qF ["book","known","dated"] 2 λnd g hu G=>
  (ao (my ["number","book"] nd (cj (a7 (f3 T) g)) (dH (aI vn (aZ (f2 T) g (ai (aS (af 1) (af 0)) am)) eJ)) (af 0))
   (bj (EJ EH T.n12 (af 2) (wg (cap:=[0]) (N':=["number","book"]) (by decide +kernel) T.l5 G rfl rfl (Bm (by decide +kernel) rfl rfl rfl rfl rfl) rfl (.cons rfl rfl (Or.inl rfl) rfl (oW (by decide +kernel) rfl) (.nil rfl)) rfl g.in1.in1 (λ_ _ _ _=>rfl) λ_ _ _ _ g=>have hu:=CB g;(a7 (f4 T) g)))))
theorem f6:Fn P w K mg base 1 "by_office" g7:=T.d6.fq T.hX oz ["claim"] 1 λnd g hu=>
  (bj (aY (ai (bJ 0) (ai (bJ 0) (ai (bJ 0) am)))))
theorem f7:Fn P w K mg base 3 "roots" gl:=T.d7.fq T.hX B5 ["book","known","known_rows"] 2 λnd g hu=>
  (ao (my ["number","book"] nd (cj (a7 (f3 T) g)) iN (aS (af 1) (af 0)))
   (bj (jg (L8 rfl) T.n2 L7 (ai (fR ["row"] (cj (af 2)) (dH (aI (cJ hu) (a7 (f0 T) g) a8)) (aY (ai (a7 (f1 T) g) (aD 0 am)))) am))))
theorem f8:Fn P w K mg base 1 "is_known" c9:=T.d8.fq T.hX qG ["book","known","number"] 3 λnd g hu=>
  (bj (hG (Eg mh AS au (af 2) (bz gN T.n6 gt (aD 0 am))) (fF (ce mh (aS (aS (af 0) (af 2)) au) (af 1)))))
theorem f9:Fn P w K mg base 4 "tells" pz:=T.d9.fq T.hX B6 ["row","words","person","day"] 4 λnd g hu=>
  (bj (hG (ce oh (a7 (f0 T) g) (af 1)) (hG (ce (cJ hu) (a7 (f1 T) g) (af 2)) (fF (ce mh (a7 (f2 T) g) (af 3))))))
theorem f10:Fn P w K mg base 5 "told_of" gY:=T.d10.fq T.hX ua ["book","known","words","person","day"] 5 λnd g hu=>
  (bj (fR ["number","words","person","day","book"] (cj (a7 (f3 T) g)) (dH (ci (aZ (f9 T) g (ai (aS (af 4) (af 0)) (aD 1 (aD 2 (aD 3 am))))))) (af 0)))
theorem f11:Fn P w K mg base 6 "lives" m8:=T.d11.fq T.hX B7 ["book","known","person","day"] 4 λnd g hu=>
  (bj (ce (cJ hu) (bz gN T.n6 gt (ai (aZ (f10 T) g (aD 0 (aD 1 (ai (aY (ai a8 am)) (aD 2 (aD 3 am)))))) am)) au))
theorem UC:Fn P w K mg base 8 "has_seal" lJ:=T.d12.fqL T.hX qH ["book","known","person","day","told"] 4 λnd g hu G=>
  (ao (aB nd (aZ (f10 T) g (aD 0 (aD 1 (ai (aY (ai a8 (ai a8 am))) (aD 2 (aD 3 am)))))))
   (ao (cw (aI (cJ hu) (bz gN T.n6 gt (aD 4 am)) au) gM)
   (bj (ce (cJ hu) (aZ (f0 T) g (ai (aS (af 0) (yj Sy T.n8 (af 4) (wg (cap:=[0]) (N':=["number","book"]) (by decide +kernel) T.l12 G rfl rfl (Bm (by decide +kernel) rfl rfl rfl rfl rfl) rfl (.cons rfl rfl (Or.inl rfl) rfl (oW (by decide +kernel) rfl) (.nil rfl)) rfl g.in1 (λ_ _ _ _=>rfl) λ_ _ _ _ g=>have hu:=CB g;(a7 (f4 T) g)) g)) am)) a8))))
theorem P9:Fn P w K mg base 9 "is_sound" dM:=T.d13.fq T.hX qI ["book","known","number","sealer","day"] 3 λnd g hu=>
  (ao (cw (jW (jV (gF (ci (a7 (f8 T) g))) (jU (aI mi (aZ (f0 T) g (ai (aS (af 0) (af 2)) am)) (xB T.k2))))) gM)
   (ao (aB nd (aZ (f1 T) g (ai (aS (af 0) (af 2)) (ai a8 am))))
   (ao (aB nd (aZ (f2 T) g (ai (aS (af 0) (af 2)) am)))
   (bj (hG (a7 (f11 T) g) (fF (a7 (UC T) g)))))))
theorem S6:Fn P w K mg base 1 "lies_in" jr:=T.d14.fq T.hX ub ["day","stretch"] 2 λnd g hu=>
  (bj (hG (ce mh (bJ 1) (af 0)) (fF (AH (ce Ej (bJ 1) eJ) (fF (ce AS (af 0) (bJ 1)))))))
theorem QK:Fn P w K mg base 2 "is_alive" cM:=T.d15.fq T.hX qJ ["claim","day"] 2 λnd g hu=>
  (bj (aZ (S6 T) g (aD 1 (ai (aY (ai (bJ 0) (ai (bJ 0) am))) am))))
theorem QL:Fn P w K mg base 1 "by_since" di:=T.d16.fq T.hX qK ["claim"] 1 λnd g hu=>
  (bj (aY (ai (bJ 0) (ai (bJ 0) am))))
theorem UD:Fn P w K mg base 5 "chief_of" lK:=T.d17.fq T.hX qL ["alive","rule"] 2 λnd g hu=>
  (ao (cw (aI (cJ hu) (af 1) a8) (aS (yj Sy T.n8 (af 0) (Bo (QL T) (g.in1.mono (by decide)) rfl) g) au))
   (bj (aS (yj Q7 T.n9 (af 0) (Bo (QL T) (g.in1.mono (by decide)) rfl) g) au)))
theorem S7:Fn P w K mg base 6 "holder_by" dN:=T.d18.fq T.hX o0 ["claimed","root","day","alive","people","person","oldest"] 3 λnd g hu=>
  (ao (my ["claim","day","root"] nd (cj (af 0)) (dH (jW (iO (aI (cJ hu) (bJ 0) (a7 (f1 T) g)) (gQ (ci (a7 (QK T) g)))))) (af 0))
   (ao (aB nd (qb rfl T.n12 T.n11 (fR ["claim"] (cj (af 3)) iN (bJ 0))))
   (ao (cw (aI (cJ hu) (bz gN T.n6 gt (aD 4 am)) au) (aY (ai a8 am)))
   (ao (cw (jW (iO (aI Eh (bz gN T.n6 gt (aD 4 am)) au) (gQ (aI (cJ hu) (a7 (f1 T) g) a8)))) (aY (ai a8 (aD 4 am))))
   (ao (aB nd (aZ (UD T) g (aD 3 (ai (a7 (f1 T) g) am))))
   (ao (aB nd (yj Q7 T.n9 (fR ["claim","person"] (cj (af 3)) (dH (aI (cJ hu) (bJ 0) (af 1))) (af 0)) (Bo (QL T) (g.in1.mono (by decide)) rfl) g))
   (bj (aY (ai a8 (aD 5 (ai (bJ 6) am)))))))))))
theorem QM:Fn P w K mg base 7 "is_held_by" cE:=T.d19.fq T.hX m9 ["claimed","root","person","day"] 4 λnd g hu=>
  (bj (ce (cJ hu) (hW (a7 (S7 T) g) j6 (j7 au)) (aY (ai a8 (aD 2 am)))))
theorem UE:Fn P w K mg base 8 "is_first_death" fX:=T.d20.fqL T.hX js ["book","known","number","row","deaths"] 3 λnd g hu G=>
  (ao (aB nd (aS (af 0) (af 2)))
   (ao (aB nd (aZ (f10 T) g (aD 0 (aD 1 (ai (aY (ai a8 am)) (ai (a7 (f1 T) g) (ai (a7 (f2 T) g) am)))))))
   (bj (ce (cJ hu) (yj Q7 T.n9 (af 4) (wg (cap:=[0]) (N':=["each","book"]) (by decide +kernel) T.l20 G rfl rfl (Bm (by decide +kernel) rfl rfl rfl rfl rfl) rfl (.cons rfl rfl (Or.inl rfl) rfl (oW (by decide +kernel) rfl) (.nil rfl)) rfl g.in1 (λ_ _ _ _=>rfl) λ_ _ _ _ g=>have hu:=CB g;(a7 (f4 T) g)) g) (af 2)))))
theorem UF:Fn P w K mg base 10 "counts" mB:=T.d21.fq T.hX y4 ["book","known","so_far","number","row","root"] 4 λnd g hu=>
  (ao (aB nd (aS (af 0) (af 3)))
   (ao (cw (aI (cJ hu) (a7 (f0 T) g) a8) (a7 (UE T) g))
   (ao (cw (aI mi (a7 (f0 T) g) (aY (ai a8 (ai a8 (ai a8 am))))) gM)
   (ao (aB nd (EQ (Gp hu) (a7 (f7 T) g) (a7 (f1 T) g) ⟨rfl,rfl,rfl,rfl⟩))
   (ao (cw (aI Ej (af 5) eJ) gM)
   (ao (cw (aI (cJ hu) (a7 (f0 T) g) a8) gM)
   (bj (hG (a7 (P9 T) g) (fF (aZ (QM T) g (aD 2 (aD 5 (ai (a7 (f1 T) g) (ai (a7 (f2 T) g) am))))))))))))))
theorem S8:Fn P w K mg base 3 "new_claim" g8:=T.d22.fq T.hX o3 ["row","since","number"] 3 λnd g hu=>
  (bj (aY (ai (a7 (f1 T) g) (ai (a7 (f1 T) g) (aD 1 (ai eJ (aD 2 am)))))))
theorem S9:Fn P w K mg base 3 "ended" p0:=T.d23.fq T.hX B8 ["so_far","offices","person","day","left","claim"] 4 λnd g hu=>
  (ao (aB nd (b9 am))
   (ao (oy (cj (af 0)) (yo 5 nd) cS (bi (ft (jW (jV (aI mi (bJ 5) (af 1)) (jV (aI (xA hu) (bJ 5) (af 2)) (jU (gF (jW (jV (ci (a7 (QK T) g)) (jU (aI Eh (bJ 5) (af 3)))))))))) (bi (iQ (i:=4) (af 5))) (bi (ft (aI AS (bJ 5) (af 3)) (bi (iQ (i:=4) (aY (ai (bJ 5) (aD 2 (ai (bJ 5) (aD 3 (ai (bJ 5) am)))))))) eK)))))
   (bi (j4 4))))
theorem UG:Fn P w K mg base 4 "after_choice" ij:=T.d24.fq T.hX kx ["so_far","row","number","since","left"] 3 λnd g hu=>
  (ao (aB nd (a7 (f1 T) g))
   (ao (aB nd (aZ (S9 T) g (aD 0 (ai (b9 (ai (a7 (f1 T) g) am)) (ai (a7 (f1 T) g) (aD 3 am))))))
   (bj (aw aM (af 4) (b9 (ai (a7 (S8 T) g) am))))))
theorem UH:Fn P w K mg base 7 "inherited" ky:=T.d25.fq T.hX o4 ["book","known","so_far","heirs","number","person","day","told","office","heir"] 5 λnd g hu=>
  (ao (aB nd (aZ (f1 T) g (ai (aS (af 0) (af 4)) (ai a8 am))))
   (ao (aB nd (aZ (f2 T) g (ai (aS (af 0) (af 4)) am)))
   (ao (aB nd (b9 am))
   (ao (tz [5,6] (oy (cj (qb rfl T.n12 T.n11 (fR ["claim","person","day"] (cj (af 2)) (dH (jW (iO (aI (cJ hu) (bJ 0) (af 1)) (gQ (ci (a7 (QK T) g)))))) (bJ 0)))) (yo 8 nd) cS (ao (aB nd (EY (Gp hu) (af 3) (aD 8 (aD 5 am)) ⟨rfl,rfl,rfl,rfl⟩))
   (bi (ft (jW (iO (aI vn (af 9) eJ) (gQ (ci (a7 (f11 T) g))))) (bi (iQ (i:=7) (aY (aD 8 (aD 9 (aD 6 (ai eJ (aD 4 am)))))))) eK)))))
   (bi (j4 7))))))
theorem UI:Fn P w K mg base 8 "after_death" iV:=T.d26.fq T.hX ls ["book","known","so_far","heirs","number","offices","left"] 5 λnd g hu=>
  (ao (my ["claim"] nd (cj (af 2)) iN (bJ 0))
   (ao (aB nd (aZ (S9 T) g (aD 2 (aD 5 (ai (aZ (f1 T) g (ai (aS (af 0) (af 4)) (ai a8 am))) (ai (aZ (f2 T) g (ai (aS (af 0) (af 4)) am)) am))))))
   (bj (aw aM (af 6) (a7 (UH T) g)))))
theorem QN:Fn P w K mg base 11 "claims" k6:=T.d27.fq T.hX y6 ["book","known","so_far","heirs","number","row"] 2 λnd g hu=>
  (ao (aB nd (b9 am))
   (ao (HU (i:=3) nd)
   (ao (oy (cj (a7 (f5 T) g)) (yo 4 nd) cS (ao (aB nd (aS (af 0) (af 4)))
   (ao (ft (gF (ci (a7 (UF T) g))) (bi HA) eK)
   (bi (ft (aI (cJ hu) (a7 (f0 T) g) a8) (bi (aB nd (aw aM (af 2) (b9 (ai (aZ (S8 T) g (aD 5 (ai (a7 (f2 T) g) (aD 4 am)))) am))))) (bi (ft (aI (cJ hu) (a7 (f0 T) g) a8) (bi (aB nd (a7 (UG T) g))) (bi (ft (aI (cJ hu) (a7 (f0 T) g) a8) (bi (HW (i:=3) (Gp hu) (a7 (f1 T) g) (ai (a7 (f1 T) g) (ai (a7 (f1 T) g) am)))) (bi (aB nd (a7 (UI T) g))))))))))))
   (bj (EJ EH T.n12 (af 2) (Bo (f6 T) (g.in1.in1.mono (by decide)) rfl))))))
theorem SA:Fn P w K mg base 2 "is_paper" fm:=T.d28.fq T.hX qN ["book","known","number"] 3 λnd g hu=>
  (bj (hG (a7 (f8 T) g) (fF (ce oh (aZ (f0 T) g (ai (aS (af 0) (af 2)) am)) (xB T.k0)))))
theorem SD:Fn P w K mg base 2 "is_leave" fY:=T.d29.fq T.hX qO ["book","known","number"] 3 λnd g hu=>
  (bj (hG (a7 (f8 T) g) (fF (ce (cJ hu) (aZ (f0 T) g (ai (aS (af 0) (af 2)) am)) a8))))
theorem QO:Fn P w K mg base 3 "is_borne" dO:=T.d30.fq T.hX qP ["book","known","number"] 3 λnd g hu=>
  (bj (AH (a7 (SD T) g) (fF (a7 (SA T) g))))
theorem SE:Fn P w K mg base 1 "covers" io:=T.d31.fq T.hX qQ ["matters","some"] 2 λnd g hu=>
  (bj (ce (cJ hu) (aw NK (af 0) (af 1)) (af 1)))
theorem SF:Fn P w K mg base 3 "reach_bar" iH:=T.d32.fq T.hX o5 ["row","above"] 2 λnd g hu=>
  (ao (cw (gF (ci (aZ (SE T) g (ai (a7 (f1 T) g) (ai (a7 (f1 T) g) am))))) a8)
   (ao (cw (jW (iO (aI (cJ hu) (a7 (f0 T) g) a8) (gQ (aI Qz (a7 (f1 T) g) (a7 (f1 T) g))))) a8)
   (bj eJ)))
theorem UJ:Fn P w K mg base 8 "office_bar" gV:=T.d33.fq T.hX mC ["claimed","row","root"] 3 λnd g hu=>
  (ao (cw (gF (ci (aZ (QM T) g (aD 0 (aD 2 (ai (a7 (f1 T) g) (ai (a7 (f2 T) g) am))))))) a8)
   (bj (a7 (SF T) g)))
theorem UK:Fn P w K mg base 9 "office_bases" iq:=T.d34.fq T.hX k7 ["book","known","claimed","number","row","bearing"] 4 λnd g hu=>
  (ao (aB nd (aS (af 0) (af 3)))
   (ao (my ["root","claimed","row"] nd (Bt (a7 (f7 T) g)) (dH (aI Ej (a7 (UJ T) g) eJ)) (af 0))
   (bj (fR ["root","claimed","row"] (cj (af 5)) iN (aY (ai a8 (ai (a7 (f1 T) g) (ai (aS (aZ (S7 T) g (aD 1 (aD 0 (ai (a7 (f2 T) g) am)))) au) am))))))))
theorem UL:Fn P w K mg base 1 "ends_within" iW:=T.d35.fq T.hX lu ["stop","bound"] 2 λnd g hu=>
  (ao (cw (aI Ej (af 1) eJ) gM)
   (bj (hG (ce vn (af 0) eJ) (fF (ce mh (af 0) (af 1))))))
theorem UM:Fn P w K mg base 2 "is_within" iI:=T.d36.fq T.hX o6 ["one","other"] 2 λnd g hu=>
  (bj (hG (ce mh (bJ 1) (bJ 0)) (fF (aZ (UL T) g (ai (bJ 0) (ai (bJ 1) am))))))
theorem SG:Fn P w K mg base 5 "is_ahead" fZ:=T.d37.fq T.hX qS ["book","one","other"] 3 λnd g hu=>
  (bj (ce (Od hu) (a7 (f4 T) g) (a7 (f4 T) g)))
theorem UN:Fn P w K mg base 6 "leave_bar" iJ:=T.d38.fq T.hX o7 ["book","number","leave","row","stretch"] 3 λnd g hu=>
  (ao (aB nd (aS (af 0) (af 1)))
   (ao (aB nd (aZ (f1 T) g (ai (aS (af 0) (af 2)) (ai a8 am))))
   (ao (cw (gF (ci (a7 (SG T) g))) a8)
   (ao (cw (jW (jV (gF (ci (aZ (S6 T) g (ai (a7 (f2 T) g) (aD 4 am))))) (jU (gF (ci (aZ (UM T) g (ai (a7 (f1 T) g) (aD 4 am)))))))) a8)
   (bj (aZ (SF T) g (aD 3 (ai (aS (af 0) (af 2)) am))))))))
theorem UO:Fn P w K mg base 3 "leaves_to" k8:=T.d39.fq T.hX o8 ["book","known","person","leaves"] 3 λnd g hu=>
  (ao (my ["number","book","known"] nd (cj (a7 (f3 T) g)) (dH (ci (a7 (SD T) g))) (af 0))
   (bj (fR ["number","person","book"] (cj (af 3)) (dH (aI (cJ hu) (aZ (f1 T) g (ai (aS (af 2) (af 0)) (ai a8 am))) (af 1))) (af 0))))
theorem UP:Fn P w K mg base 7 "leave_bases" iX:=T.d40.fq T.hX lw ["book","known","number","leaves"] 3 λnd g hu=>
  (ao (aB nd (aZ (UO T) g (aD 0 (aD 1 (ai (aZ (f1 T) g (ai (aS (af 0) (af 2)) (ai a8 am))) am)))))
   (bj (fR ["leave","book","number"] (cj (af 3)) (dH (aI Ej (a7 (UN T) g) eJ)) (aY (ai a8 (aD 0 am))))))
theorem UQ:Fn P w K mg base 6 "copy_bases" jE:=T.d41.fq T.hX mD ["book","known","number","of"] 3 λnd g hu=>
  (ao (aB nd (aZ (f1 T) g (ai (aS (af 0) (af 2)) (ai a8 am))))
   (ao (cw (jW (iO (ci (a7 (SA T) g)) (gQ (ci (a7 (SG T) g))))) (b9 (ai (aY (ai a8 (aD 3 am))) am)))
   (bj (b9 am))))
theorem SH:Fn P w K mg base 10 "bases_by" dP:=T.d42.fqL T.hX qT ["book","known","claimed","number","found"] 4 λnd g hu G=>
  (ao (cw (gF (ci (a7 (QO T) g))) (b9 am))
   (ao (cw (aI (cJ hu) (aZ (f0 T) g (ai (aS (af 0) (af 3)) am)) a8) (a7 (UQ T) g))
   (ao (aB nd (aw aM (a7 (UK T) g) (a7 (UP T) g)))
   (bj (EJ (Fd hu) T.n12 (af 4) (wg (cap:=[]) (N':=["base"]) (by decide +kernel) T.l42 G rfl rfl (Bm (by decide +kernel) rfl rfl rfl rfl rfl) rfl (.nil rfl) rfl g.in1.in1 (λ_ _ _ _=>rfl) λ_ _ _ _ g=>have hu:=CB g;(aY (ai (aS (af 0) (AG AT au)) (aD 0 am)))))))))
theorem UR:Fn P w K mg base 8 "may_call" lL:=T.d43.fq T.hX qU ["book","known","claimed","call","number","row","caller","over"] 5 λnd g hu=>
  (ao (aB nd (aS (af 0) (af 4)))
   (ao (aB nd (aZ (f1 T) g (ai (aS (af 0) (af 3)) (ai a8 am))))
   (ao (cw (aI (cJ hu) (af 6) (a7 (f1 T) g)) gM)
   (ao (cw (aI (cJ hu) (a7 (f0 T) g) a8) gM)
   (ao (my ["root","row"] nd (Bt (a7 (f7 T) g)) (dH (ci (aZ (SE T) g (ai (a7 (f1 T) g) (ai (a7 (f1 T) g) am))))) (af 0))
   (bj (bz AZ T.n0 Ba (ai (fR ["root","claimed","caller","book","call"] (cj (af 7)) iN (aZ (QM T) g (aD 1 (aD 0 (aD 2 (ai (aZ (f2 T) g (ai (aS (af 3) (af 4)) am)) am)))))) am))))))))
theorem US:Fn P w K mg base 10 "calls_in" jF:=T.d44.fq T.hX qV ["book","known","claimed","call","number","day","row"] 6 λnd g hu=>
  (ao (aB nd (aS (af 0) (af 3)))
   (ao (cw (jW (jV (aI (xA hu) (a7 (f0 T) g) a8) (jV (aI (xA hu) (a7 (f1 T) g) (af 4)) (jU (aI Eh (a7 (f2 T) g) (af 5)))))) gM)
   (bj (hG (a7 (P9 T) g) (fF (a7 (UR T) g))))))
theorem SI:Fn P w K mg base 11 "calls_by" jG:=T.d45.fq T.hX qW ["book","known","claimed","number","day"] 5 λnd g hu=>
  (ao (cw (gF (ci (a7 (QO T) g))) (b9 am))
   (bj (fR ["call","book","known","claimed","number","day"] (cj (a7 (f3 T) g)) (dH (ci (a7 (US T) g))) (af 0))))
theorem UT:Fn P w K mg base 12 "is_fit" mE:=T.d46.fq T.hX y7 ["book","known","claimed","number","day"] 5 λnd g hu=>
  (ao (cw (jW (jV (gF (ci (a7 (P9 T) g))) (jU (aI Eh (aZ (f2 T) g (ai (aS (af 0) (af 3)) am)) (af 4))))) gM)
   (bj (ce (cJ hu) (bz gN T.n6 gt (ai (a7 (SI T) g) am)) au)))
theorem SJ:Fn P w K mg base 13 "links" mF:=T.d47.fq T.hX B9 ["book","known","day","claimed","found","number"] 3 λnd g hu=>
  (ao (Hn (i:=3) nd (a7 (QN T) g))
   (ao (wj (i:=4) nd)
   (ao (oy (cj (a7 (f5 T) g)) (yo 5 nd) cS (bi (ft (jW (iO (ci (a7 (QO T) g)) (gQ (ci (a7 (UT T) g))))) (bi (qA (i:=4) (Gp hu) (a7 (SH T) g) (af 5))) eK)))
   (bi (j4 4)))))
theorem SK:Fn P w K mg base 1 "bears" gm:=T.d48.fq T.hX BA ["base","among"] 2 λnd g hu=>
  (bj (AH (ce (cJ hu) (bJ 0) a8) (fF (LH (LG (Gp hu) (bJ 0) (af 1)) (ce oh (bJ 0) (af 1))))))
theorem UU:Fn P w K mg base 2 "stood" wt:=T.d49.fq T.hX BB ["found","stands","number","resting"] 1 λnd g hu=>
  (ao (wj (i:=1) nd)
   (ao (oy (yp (af 0)) (zv rfl (gn (yo 2 nd) (gn (yo 3 nd) oV))) NX (bi (ft (ci (bz AZ T.n0 Ba (ai (fR ["base","stands"] (cj (af 3)) iN (a7 (SK T) g)) am))) (bi (HV (i:=1) (Gp hu) gM (af 2))) eK)))
   (bi (j4 1))))
theorem UV:Fn P w K mg base 14 "standing" jH:=T.d50.fq T.hX qY ["book","known","day"] 3 λnd g hu=>
  (bj (bz (Dk rfl) T.n12 mn (ai (aZ (UU T) g (ai (a7 (SJ T) g) am)) am)))
theorem SM:Fn P w K mg base 14 "is_shut" jt:=T.d51.fq T.hX uc ["book","known","day","numbers","found","borne"] 4 λnd g hu=>
  (ao (aB nd (a7 (SJ T) g))
   (ao (my ["number","resting","numbers"] nd (yp (af 4)) (dH (ci (bz AZ T.n0 Ba (ai (fR ["base","numbers"] (cj (af 1)) iN (a7 (SK T) g)) am)))) (af 0))
   (bj (ce (cJ hu) (bz yf T.n12 mn (aD 3 am)) (bz yf T.n12 mn (aD 5 am))))))
theorem A2:Fn P w K mg base 1 "_law_cell" bB:=T.d52.fq T.hX yA ["_law_script","_law_k","_law_cell_here"] 2 λnd g hu=>
  (ao (aB nd au)
   (ao (ft (aI Eh (bz gN T.n6 gt (aD 0 am)) au) (bi (aB nd (aS (af 0) (aw bG (af 1) (bz gN T.n6 gt (aD 0 am)))))) eK)
   (ao (aB nd (aw bG (aw cK (aw aM (aw aM (aw bG (af 2) au) (aw cK au (af 1))) au) au) au))
   (bj (aw bG (aw cK (af 2) (aw aM (aw aM (aw bG (af 2) au) (af 1)) au)) au)))))
theorem UW:Fn P w K mg base 1 "_law_names" nG:=T.d53.fq T.hX ud ["_law_cell_here","_law_letters","_law_base","_law_at","_law_names_here","_law_k","_law_name"] 1 λnd g hu=>
  (ao (aB nd a8)
   (ao (my ["_law_k","_law_letters","_law_cell_here"] nd (pP T.n10 (aw aM au (aw bG (af 0) au))) iN (aS (af 1) (aw bG (aw bN (af 2) (aw aM au (aw cK au (af 0)))) au)))
   (ao (aB nd (aw bG (aw bN (af 0) au) (bz gN T.n6 gt (aD 2 am))))
   (ao (aB nd (b9 am))
   (ao (tU (hV T.n10 au) (yo 5 nd) cS (ao (aB nd (jg Ev T.n7 El (aD 2 am)))
   (ao (Ey (i:=6) (aS (af 1) (aw bG (aw aM (aw bN (af 0) au) (aw cK au (af 5))) au)) (af 3))
   (bi (iQ (i:=4) (Ln PySem.F.slot_str_join PySem.F.type_str_join Lp Et a8 (af 6)))))))
   (ao (ft (aI (cJ hu) (aw bG (aw bN (af 0) au) au) au) (bi (Ey (i:=4) (bJ 4) au)) eK)
   (bi (j4 4))))))))
theorem SN:Fn P w K mg base 1 "_law_stretch" g9:=T.d54.fq T.hX o9 ["_law_cell_here","_law_day","_law_measure","_law_some"] 3 λnd g hu=>
  (ao (aB nd (b9 (ai (aY (bU (ai eJ am))) (ai (aY (aD 1 (ai eJ am))) (ai (aY (aD 1 (ai (aw aM (af 1) (aw cK au (af 2))) am))) (ai (aY (bU (ai (aw aM (af 1) (aw cK au (af 2))) am))) (ai (aY (bU (ai (aw cK au (af 2)) am))) am)))))))
   (ao (aB nd (aw aM (af 3) (b9 (ai (aY (ai (aw aM (af 1) (af 2)) (ai (aw aM (af 1) (aw cK au (af 2))) am))) (ai (aY (ai (aw bN (af 1) au) (ai (aw aM (af 1) (aw cK au (af 2))) am))) (ai (aY (bU (ai eJ am))) am))))))
   (bj (aS (af 3) (aw bG (af 0) au)))))
theorem UX:Fn P w K mg base 2 "_law_deed" qZ:=T.d55.fq T.hX yB ["_law_many","_law_cell_here","_law_other","_law_names_here","_law_day","_law_had","_law_measure","_law_kinds","_law_word","_law_by","_law_person","_law_of","_law_matters","_law_further","_law_start"] 7 λnd g hu=>
  (ao (aB nd (aw aM (aw aM (EW (b9 (ai a8 am)) au) (EW (b9 (ai a8 am)) au)) (b9 (ai a8 (ai a8 (ai a8 (ai a8 (ai a8 am))))))))
   (ao (aB nd (aw aM (af 7) (b9 (ai a8 (ai a8 (ai a8 (ai a8 (ai a8 (ai a8 am)))))))))
   (ao (aB nd (aS (af 7) (aw bG (af 1) au)))
   (ao (aB nd (aS (af 5) (aw AI (AG AT au) (aw bG (aw bN (af 1) au) (bz NS T.n9 NP (bU (ai (bz gN T.n6 gt (aD 5 am)) am)))))))
   (ao (ft (aI (cJ hu) (aw bG (aw bN (af 1) au) au) au) (bi (aB nd (aS (af 3) (aw bG (aw bN (af 1) au) au)))) eK)
   (ao (aB nd (aS (af 3) (aw bG (aw bN (af 1) au) au)))
   (ao (aB nd (bz NR T.n8 NO (bU (ai (aw AI (aw AI (af 0) au) (aw bG (af 2) au)) am))))
   (ao (ft (aI (cJ hu) (aw bG (aw bN (af 2) au) au) au) (bi (aB nd (aw bG (aw bN (af 2) au) au))) eK)
   (ao (ft (aI (cJ hu) (af 8) a8) (ao (aB nd (by refine aS (hs:=?_) ?_ ?_;refine b9 ?_;refine bU ?_;refine bU ?_;refine bU ?_;refine bU ?_;refine bU ?_;refine bU ?_;refine bU ?_;refine bU ?_;exact am;exact(aw bG (aw bN (af 1) au) au);intro _ _;rfl))
   (ao (aB nd (aw bG (aw bN (af 2) au) (aS (b9 (bU (bU (bU (bU am))))) (aw bG (aw bN (af 2) au) au))))
   (bj (aY (aD 8 (aD 4 (aD 9 (aD 10 (aD 12 (ai (aZ (SN T) g (ai (aw bN (af 2) au) (aD 4 (aD 6 am)))) (aD 13 am))))))))))) eK)
   (ao (ft (jW (jV (aI (cJ hu) (af 8) a8) (jU (aI (cJ hu) (af 8) a8)))) (ao (aB nd (by refine aS (hs:=?_) ?_ ?_;refine b9 ?_;refine bU ?_;refine bU ?_;refine bU ?_;refine bU ?_;refine bU ?_;refine bU ?_;refine bU ?_;refine bU ?_;exact am;exact(aw bG (aw bN (af 1) au) au);intro _ _;rfl))
   (ao (aB nd (aY (aD 8 (aD 4 (aD 9 (aD 12 (ai (aZ (SN T) g (ai (aw bN (af 2) au) (aD 4 (aD 6 am)))) (ai (aS (b9 (ai eJ (aD 10 am))) (aw bG (aw bN (af 2) au) au)) am))))))))
   (ao (cw (aI (cJ hu) (af 8) a8) (aw EN (af 14) (aY (aD 11 (ai (aY (ai (aY (bU (aD 10 am))) am)) am)))))
   (bj (aw EN (af 14) (aY (ai (aY (aD 10 am)) am))))))) eK)
   (ao (cw (aI oh (af 8) (aY (ai a8 (ai a8 am)))) (aY (aD 8 (aD 4 (aD 9 (aD 11 am))))))
   (ao (cw (aI (cJ hu) (af 8) a8) (aY (aD 8 (aD 4 (ai (aS (af 3) (aw aM au (aw bG (af 2) au))) (aD 10 am))))))
   (ao (cw (aI (cJ hu) (af 8) a8) (aY (aD 8 (aD 4 (aD 9 (ai (aS (af 3) (aw aM au (aw bG (af 2) au))) (aD 10 (ai (aw aM (af 4) (aw cK (aw bG (aw bN (af 2) au) au) (af 6))) am))))))))
   (ao (cw (aI (cJ hu) (af 8) a8) (aY (aD 8 (aD 4 (aD 9 (ai (aS (af 3) (aw aM au (aw bG (af 2) au))) (aD 10 am)))))))
   (bj (aY (aD 8 (aD 4 (aD 9 am)))))))))))))))))))
theorem UY:Fn P w K mg base 3 "_law_rows" ra:=T.d56.fq T.hX yC ["_law_script","_law_names_here","_law_measure","_law_most","_law_head","_law_rows_here","_law_had","_law_k","_law_rule","_law_matters","_law_late","_law_further","_law_cell_here","_law_day","_law_deed_here"] 4 λnd g hu=>
  (ao (aB nd (aZ (A2 T) g (aD 0 (bU am))))
   (ao (aB nd (b9 am))
   (ao (aB nd (b9 am))
   (ao (tU (hV T.n10 (aw aM au (aw bG (af 4) au))) (yo 7 nd) cS (ao (aB nd (aS (b9 (ai a8 (ai a8 (ai a8 am)))) (aw bG (aw bN (af 4) (aw aM au (aw cK au (af 7)))) au)))
   (ao (aB nd (aS (b9 (bU (bU (bU (bU am))))) (aw bG (aw bN (af 4) (aw aM au (aw cK au (af 7)))) au)))
   (ao (aB nd (aw cK (aw cK (jg NY T.n4 NQ (ai (ce (cJ hu) (aw bG (aw bN (af 4) (aw aM au (af 7))) au) au) am)) au) (af 2)))
   (ao (aB nd (aw bG (aw bN (af 4) (aw aM au (aw cK au (af 7)))) (aS (b9 (bU (bU (bU am)))) (aw bG (aw bN (af 4) (aw aM au (af 7))) au))))
   (ao (iQ (i:=5) (aY (aD 10 (ai (aY (ai a8 (ai (aS (af 1) (aw aM au (af 7))) (aD 9 (aD 11 (aD 8 am)))))) am))))
   (ao (iQ (i:=5) (aY (bU (ai (aY (ai a8 (bU (ai (aS (af 1) (aw aM au (af 7))) (ai (aS (af 1) (af 7)) am))))) am))))
   (bi (iQ (i:=6) (aS (af 1) (af 7)))))))))))
   (ao (tU (hV T.n10 (aw aM au (aw bG (aZ (A2 T) g (aD 0 (bU am))) (af 3)))) (yo 7 nd) cS (ao (aB nd (aZ (A2 T) g (aD 0 (ai (aw aM au (af 7)) am))))
   (ao (aB nd (aw cK (aw aM (aw bN (af 7) au) (aw bG (aw bN (af 12) au) au)) (af 2)))
   (ao (aB nd (aZ (UX T) g (ai (bz gN T.n6 gt (aD 5 am)) (ai (aZ (A2 T) g (aD 0 (ai (aw aM au (af 7)) am))) (ai (aZ (A2 T) g (aD 0 (ai (aw aM au (af 7)) am))) (aD 1 (aD 13 (aD 6 (aD 2 am)))))))))
   (ao (ft (aI oh (bJ 14) (aY (ai a8 (ai a8 am)))) (bi (iQ (i:=6) (bJ 14))) eK)
   (ao (ft (aI (cJ hu) (bJ 14) a8) (bi (iQ (i:=6) (bJ 14))) eK)
   (bi (iQ (i:=5) (aY (ai (aw aM (af 13) (aw cK (by refine aS (hs:=?_) ?_ ?_;refine b9 ?_;refine bU ?_;refine bU ?_;refine bU ?_;refine bU ?_;refine bU ?_;refine bU ?_;exact am;exact(aw bG (aw bN (af 12) au) au);intro _ _;rfl) (af 2))) (aD 14 am)))))))))))
   (bj (jg HB T.n13 Hs (aD 5 am))))))))
theorem UZ:Fn P w K mg base 12 "calls" p4:=T.d57.fq T.hX BC ["book","known","number","day"] 4 λnd g hu=>
  (bj (aZ (SI T) g (aD 0 (aD 1 (ai (a7 (QN T) g) (aD 2 (aD 3 am)))))))
theorem Va:Fn P w K mg base 12 "bases" wu:=T.d58.fq T.hX BD ["book","known","number"] 3 λnd g hu=>
  (bj (aZ (SH T) g (aD 0 (aD 1 (ai (a7 (QN T) g) (aD 2 am))))))
theorem Vb:Fn P w K mg base 13 "_law_bearers" k9:=T.d59.fq T.hX oA ["_law_rows_here","_law_known","_law_day","_law_found","_law_k","_law_there","_law_deed_here"] 3 λnd g hu=>
  (ao (wj (i:=3) nd)
   (ao (tU (hV T.n10 (bz gN T.n6 gt (aD 0 am))) (yo 4 nd) cS (ao (HC (is:=[5,6]) (aS (af 0) (af 4)) (Ls rfl (gn (yo 5 nd) (gn (yo 6 nd) oV))))
   (bi (ft (jW (iO (aI mh (af 5) (af 1)) (gQ (aI oh (bJ 6) (aY (ai a8 (ai a8 (ai a8 (ai a8 am))))))))) (ao (qA (i:=3) (Gp hu) (b9 am) (af 4))
   (bi (ft (jW (iO (aI mh (bJ 6) (af 2)) (iO (ci (a7 (P9 T) g)) (gQ (aI (cJ hu) (a7 (UZ T) g) (b9 am)))))) (bi (qA (i:=3) (Gp hu) (a7 (Va T) g) (af 4))) eK))) eK))))
   (bi (j4 3))))
theorem Vc:Fn P w K mg base 1 "_law_due" p5:=T.d60.fq T.hX BE ["_law_bearers_here","_law_numbers","_law_number","_law_k","_law_good"] 2 λnd g hu=>
  (ao (cw (aI AS (Al rfl T.n6 T.n11 (af 1)) (bz gN T.n6 gt (aD 1 am))) gM)
   (ao (oy (cj (af 1)) (yo 2 nd) cS (bi (cw (CY (Gp hu) (af 2) (af 0)) gM)))
   (ao (oy (Ib (af 0)) (yo 3 nd) cS (ao (aB nd (bz AZ T.n0 Ba (ai (fR ["_law_base","_law_numbers"] (cj (L5 (Gp hu) (af 0) (af 3) (by intro _ _;rfl))) iN (AH (ce (cJ hu) (bJ 0) a8) (fF (ce oh (aS (af 0) (AG AT au)) (af 1))))) am)))
   (bi (cw (aI (xA hu) (af 4) (ce oh (af 3) (af 1))) gM))))
   (bj gM))))
theorem Vd:Fn P w K mg base 2 "_law_mixed" kT:=T.d61.fq T.hX ue ["_law_script","_law_numbers","_law_found","_law_k"] 2 λnd g hu=>
  (ao (aB nd (b9 am))
   (ao (tU (hV T.n10 (bz gN T.n6 gt (aD 1 am))) (yo 3 nd) cS (bi (LL (i:=2) (aw bG (aZ (A2 T) g (aD 0 (ai (aw aM au (af 3)) am))) (aw aM (af 3) au)) (aS (af 1) (af 3)))))
   (bi (j4 2))))
theorem Ve:Fn P w K mg base 3 "_law_lists" kU:=T.d62.fq T.hX ug ["_law_script","_law_stand","_law_many","_law_lists_here","_law_k","_law_more","_law_at"] 3 λnd g hu=>
  (ao (Ih (i:=3) nd (aD 1 (ai (a7 (Vd T) g) am)))
   (ao (tU (hV T.n10 au) (yo 4 nd) cS (ao (aB nd (aw AI (aw bG (aZ (A2 T) g (aD 0 (ai (aw aM au (af 4)) am))) (aw aM (af 2) au)) au))
   (ao (aB nd (aw bG (aZ (A2 T) g (aD 0 (ai (aw aM au (af 4)) am))) (aw aM (bz gN T.n6 gt (aD 1 am)) au)))
   (ao (tz [6] (px (i:=3) (aw aM (hW (af 1) j6 (j7 (af 6))) (hW (af 1) (j7 (aw aM (af 6) au)) j6))))
   (ao (tz [5] (px (i:=3) (aw aM (fR ["_law_one","_law_more"] (cj (af 1)) (dH (aI (xA hu) (af 0) (af 1))) (af 0)) (b9 (aD 5 am)))))
   (ao (tz [5,6] (px (i:=3) (aw aM (fR ["_law_one","_law_more"] (cj (aw aM (hW (af 1) j6 (j7 (af 6))) (hW (af 1) (j7 (aw aM (af 6) au)) j6))) (dH (aI (xA hu) (af 0) (af 1))) (af 0)) (b9 (aD 5 am)))))
   (bi (tz [4] (px (i:=3) (yu rfl T.n12 T.n11 (fR ["_law_j","_law_many","_law_script","_law_k"] (pP T.n10 (aw aM (af 4) au)) iN (aw bG (aZ (A2 T) g (aD 2 (ai (aw aM (aw aM au (aw cK au (af 3))) (af 0)) am))) (af 1)))))))))))))
   (ao (aB nd (aw aM (af 3) (b9 (ai (aw aM (af 1) (hW (af 1) j6 (j7 au))) (ai (aw aM (hW (af 1) (j7 (AG AT au)) j6) (af 1)) am)))))
   (bj (aw aM (af 3) (b9 (ai (b9 am) (ai (fR ["_law_one","_law_stand"] (pP T.n10 (af 2)) (dH (aI mi (af 0) (af 1))) (af 0)) am))))))))
theorem head {fa:Addr}(M:mg "law" = some (.ref fa)):∃fd:FuncData,(∀(s:Shared)(u:Value),BindsTo s fd ⟨[u],[]⟩ [("_law_script",u)])/\∀base:Heap,K.In base->base.Ns mainGlobals mg->sK P w K mg base zl 15 fa fd ["_law_script"] (Hq K F_law):=by
 have S:FnScope ["_law_script","_law_names_here","_law_measure","_law_rows_here","_law_known","_law_day","_law_stand","_law_bearers_here","_law_numbers","_law_handed","_law_found"] ["_law_script"] (aQ (eV 74)):=by refine⟨rfl,rfl,rfl,?_,rfl,?_,?_⟩<;>decide +kernel
 have ⟨h,X,G⟩:=T.hX;exact du.law T.d63 X G M S (λ_ _ _ _ _ _ u=>rfl) λbase O U f eN A outer s H E g=>have hu:=CB g;have nd:=S.nd;(show wQ _ _ JB from
  (ao (aB nd (aZ (UW T) g (ai (aZ (A2 T) g (aD 0 (bU am))) am)))
   (ao (aB nd (aS (b9 (bU (bU (bU am)))) (aw bG (aZ (A2 T) g (aD 0 (bU am))) au)))
   (ao (aB nd (aZ (UY T) g (aD 0 (aD 1 (aD 2 (bU am))))))
   (ao (aB nd (aS (b9 (bU (ai (aw cK (aw bG (aw bN (aZ (A2 T) g (aD 0 (bU am))) au) au) (af 2)) am))) (aw bN (aw bG (aZ (A2 T) g (aD 0 (bU am))) au) au)))
   (ao (aB nd (aS (b9 (bU (ai (aw cK (aw bG (aw bN (aZ (A2 T) g (aD 0 (bU am))) au) au) (af 2)) am))) (aw bG (aZ (A2 T) g (aD 0 (bU am))) au)))
   (ao (aB nd (a7 (UV T) g))
   (ao (aB nd (a7 (Vb T) g))
   (ao (tz [3,6] (oy (cj (aZ (Ve T) g (aD 0 (aD 6 (ai (bz gN T.n6 gt (aD 3 am)) am))))) (yo 8 nd) cS (ao (aB nd (jg Ev T.n7 El (aD 8 am)))
   (ao (aB nd (a7 (SM T) g))
   (bi (cw (jW (jV (gF (ci (bz vq T.n5 vp (aD 10 (ai (NN T.n1 Li) am))))) (jV (aI (xA hu) (af 10) (a7 (Vc T) g)) (jU (aI (xA hu) (af 9) (af 8)))))) gM))))))
   (bj (a7 (SM T) g)))))))))))
end
end Lw
end
namespace PySem.W.Fast
def tw11938801106187597596:=()
def tw16612033736776162686:=()
def tw10197339608844623363:=()
def tw8915968497354588685:=()
def tw2591769863291395947:=()
def tw9921617368776004989:=()
def tw13540419695446765656:=()
def tw1020893142440400655:=()
def tw15772488977468761044:=()
def tw2116925810472683886:=()
def tw3179823135062993179:=()
def tw17535822666566723765:=()
def tw15320364759391490963:=()
def tw16499019753995483593:=()
def tw17892156345381380471:=()
def tw15259349606106170609:=()
def tw41048878691820228:=()
def tw11617237937779094236:=()
def tw13635962236281430623:=()
def tw11696439758138759815:=()
def tw11706718796910497059:=()
def tw5555131770466109887:=()
def tw1064808173765796062:=()
def tw1164583405944246916:=()
def tw2290314564346861115:=()
def tw16189814722599634829:=()
def tw8148086224897981860:=()
def tw12356971540048792516:=()
def tw4004076315765728127:=()
def tw14271486106662641429:=()
def tw7657887540768242002:=()
def tw6669254536420340243:=()
def tw13200439160732509770:=()
def tw6841712004898389058:=()
def tw16074447784750077988:=()
def tw8356683955316729249:=()
def tw14906210075249954796:=()
def tw11615273140793379165:=()
def tw3444318898196416915:=()
def tw1440266951933929999:=()
def tw15499878458628630517:=()
def tw4411912917864351547:=()
def tw2321649922933500047:=()
def tw4290179558854696504:=()
def tw1865592676460796883:=()
def tw6845088883590783474:=()
def tw4602053651890444503:=()
def tw9045116411810305644:=()
def tw3456368537281538662:=()
def tw13590014165425947958:=()
def tw15733894053284018973:=()
def tw8471511466776974450:=()
def tw16826634027850532402:=()
def tw18180661257045773477:=()
def tw11118538477702857448:=()
def tw12171801931033500612:=()
def tw3609015932682884302:=()
def tw11143010493495824025:=()
def tw15698715497064394995:=()
def tw242490683853287188:=()
def tw7920943193867302970:=()
def tw4998248442467538188:=()
def tw7021076139695136310:=()
def tw287788331047541162:=()
def tw17939778218057534559:=()
def tw5355869445266560505:=()
def tw2965717768504739653:=()
def tw801558382453048538:=()
def tw12470907574277957826:=()
def tw16454045644184405235:=()
def tw13466856391077243907:=()
def tw11031758110104938901:=()
def tw12592944098131425942:=()
def tw1872211798033766794:=()
def tw9890490815780324420:=()
def tw9426109553443690182:=()
def tw3427049749796538769:=()
def tw9260727919307573638:=()
def tw13392325049670568339:=()
def tw11101946145385256156:=()
def tw16972617540210552814:=()
def tw10427995181194695696:=()
def tw3961070313328822407:=()
def tw5509099892415825012:=()
def tw4619740611574655743:=()
def tw7191919483163107968:=()
def tw6126642600099941232:=()
def tw10382562020741463258:=()
def tw14446772383643194523:=()
def tw9610849052099617765:=()
def tw6051381387097836538:=()
def tw11369035205243520138:=()
def tw8378136013993522818:=()
def tw4091403503877347352:=()
def tw11863696488434489491:=()
def tw1432860410623339846:=()
def tw9916455227924380993:=()
def tw10006308103565788732:=()
def tw13168921000871803304:=()
def tw4486918578916631475:=()
def tw14502913636605704212:=()
def tw4285287046367497045:=()
def tw8237132581923176990:=()
def tw13935575490098113904:=()
def tw4428151337410037456:=()
def tw18165631555039858721:=()
def tw11544519574260106412:=()
def tw6941361271414816348:=()
def tw6045428530810414507:=()
def tw14712387748207198444:=()
def tw12678253993709473627:=()
def tw5157084586055316996:=()
def tw4600248479273266037:=()
def tw5163688956258853862:=()
def tw14935892410572153288:=()
def tw11372471715987198762:=()
def tw4689741500832708863:=()
def tw4715650126796154081:=()
def tw17763777313735430871:=()
def tw3154376233416936297:=()
def tw4971240655868993061:=()
def tw16304649904606620506:=()
def tw17705427552287058604:=()
def tw2788966127960903644:=()
def tw964408317211368798:=()
def tw16203336259072239910:=()
def tw15913553788716560193:=()
def tw11227767838087793198:=()
def tw12655843161059938448:=()
def tw2235110766866723906:=()
def tw15959231842795750309:=()
def tw182673264809287939:=()
def tw11757792897633701925:=()
end PySem.W.Fast
open PySem PySem.W PyProof.Rows
set_option maxRecDepth 100000 in
set_option maxHeartbeats 0 in
theorem PySem.Challenge.cw_sealchain_k36_lists_that_are_shut_holds : PySem.Challenge.rw_sealchain_k36_lists_that_are_shut.Holds := by
 w_on; o_law; k_head; (case hw => w_witness2)
 k_fill
 refine' DL.walkD (l := PySem.Challenge.rw_sealchain_k36_lists_that_are_shut) (k := 15) (x := ("_law_script" : PySem.Str)) (f := Lw.F_law) (L := [(("in_order" : PySem.Str), ?t0), (("has_seal" : PySem.Str), ?t1), (("is_first_death" : PySem.Str), ?t2), (("bases_by" : PySem.Str), ?t3)]) rfl rfl ⟨rfl, by decide, by decide⟩ (fun w h Y => PySem.W.km_in_of Y) ?T ?D ?F Lw.law_true
 case T =>
  intro w
  refine' DL.tabs_fit ?h0 ?h1 ?h2 ?h3 ?ap ?nt
  iterate 4 (refine' DL.tab_yes ?a ?l ?c ?m ?v; (case a => k_is); (case l => k_is); (case c => exact rfl); (case m => k_is); (case v => exact rfl))
  (case ap => decide)
  (case nt => kernel_rfl)
 case D => kernel_rfl
 case F =>
  intro w mg fa h KX G hmg
  refine' Lw.head ⟨⟨h, KX, G⟩, ?d0, ?d1, ?d2, ?d3, ?d4, ?d5, ?d6, ?d7, ?d8, ?d9, ?d10, ?d11, ?d12, ?d13, ?d14, ?d15, ?d16, ?d17, ?d18, ?d19, ?d20, ?d21, ?d22, ?d23, ?d24, ?d25, ?d26, ?d27, ?d28, ?d29, ?d30, ?d31, ?d32, ?d33, ?d34, ?d35, ?d36, ?d37, ?d38, ?d39, ?d40, ?d41, ?d42, ?d43, ?d44, ?d45, ?d46, ?d47, ?d48, ?d49, ?d50, ?d51, ?d52, ?d53, ?d54, ?d55, ?d56, ?d57, ?d58, ?d59, ?d60, ?d61, ?d62, ?d63, PySem.W.mg_none_of KX G ?z0, PySem.W.mg_none_of KX G ?z1, PySem.W.mg_none_of KX G ?z2, PySem.W.mg_none_of KX G ?z3, PySem.W.mg_none_of KX G ?z4, PySem.W.mg_none_of KX G ?z5, PySem.W.mg_none_of KX G ?z6, PySem.W.mg_none_of KX G ?z7, PySem.W.mg_none_of KX G ?z8, PySem.W.mg_none_of KX G ?z9, PySem.W.mg_none_of KX G ?z10, PySem.W.mg_none_of KX G ?z11, PySem.W.mg_none_of KX G ?z12, PySem.W.mg_none_of KX G ?z13, DL.kc_of KX G ?k0, DL.kd_of KX G ?k1, DL.kc_of KX G ?k2, ?q0, ?q1, ?q2, ?q3⟩ hmg
  iterate 64 (refine' DL.def_mk ?a ?l ?c ?k; (case a => k_is); (case l => k_is); (case c => k_is); (case k => k_is))
  (case z0 => k_is)
  (case z1 => k_is)
  (case z2 => k_is)
  (case z3 => k_is)
  (case z4 => k_is)
  (case z5 => k_is)
  (case z6 => k_is)
  (case z7 => k_is)
  (case z8 => k_is)
  (case z9 => k_is)
  (case z10 => k_is)
  (case z11 => k_is)
  (case z12 => k_is)
  (case z13 => k_is)
  (case k0 => refine' DL.const_tup ?e ?l ?v; (case e => k_is); (case l => k_is); (case v => decide +kernel))
  (case k1 => refine' DL.const_dict ?e ?l ?r ?s; (case e => k_is); (case l => k_is); (case r => refine' (DL.CRows.tup rfl ?l0 ?f0 (DL.CRows.tup rfl ?l1 ?f1 (DL.CRows.tup rfl ?l2 ?f2 (DL.CRows.tup rfl ?l3 ?f3 (DL.CRows.tup rfl ?l4 ?f4 (DL.CRows.tup rfl ?l5 ?f5 (DL.CRows.tup rfl ?l6 ?f6 (DL.CRows.tup rfl ?l7 ?f7 (DL.CRows.tup rfl ?l8 ?f8 (DL.CRows.tup rfl ?l9 ?f9 (DL.CRows.tup rfl ?l10 ?f10 (DL.CRows.tup rfl ?l11 ?f11 DL.CRows.nil)))))))))))); (case l0 => k_is); (case f0 => decide +kernel); (case l1 => k_is); (case f1 => decide +kernel); (case l2 => k_is); (case f2 => decide +kernel); (case l3 => k_is); (case f3 => decide +kernel); (case l4 => k_is); (case f4 => decide +kernel); (case l5 => k_is); (case f5 => decide +kernel); (case l6 => k_is); (case f6 => decide +kernel); (case l7 => k_is); (case f7 => decide +kernel); (case l8 => k_is); (case f8 => decide +kernel); (case l9 => k_is); (case f9 => decide +kernel); (case l10 => k_is); (case f10 => decide +kernel); (case l11 => k_is); (case f11 => decide +kernel)); (case s => decide +kernel))
  (case k2 => refine' DL.const_tup ?e ?l ?v; (case e => k_is); (case l => k_is); (case v => decide +kernel))
  iterate 4 (refine' DL.lam_mk ?a ?l ?c ?m ?v1 ?v2 ?v3 ?v4 ?v5 ?v6 ?v7; (case a => k_is); (case l => k_is); (case c => exact rfl); (case m => k_is); (case v1 => exact rfl); (case v2 => exact rfl); (case v3 => exact rfl); (case v4 => exact rfl); (case v5 => exact rfl); (case v6 => exact rfl); (case v7 => decide))

