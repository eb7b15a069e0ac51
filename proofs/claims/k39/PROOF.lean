import PyProof.Rows.All
import Wide.All
import OpenK.AllK
import Wide.FinOn
import Lean
import PyProof.EqAt
import PyProof.EqKinds
import PyProof.TupleCall
import PyProof.AttrMissHeap
import PySem.Challenge.RW_sealchain_k39_words_put_together
set_option Elab.async false
set_option linter.all false
set_option maxRecDepth 100000
set_option bootstrap.genMatcherCode false
set_option compiler.extract_closed false
set_option maxHeartbeats 40000000
def mY {α:Type _}{a:α}(l:List α){k:List α}(h:a∈k):a∈l++k:=List.mem_append_right l h
def mZ {α:Type _}(b:α){a:α}{l:List α}(h:a∈l):a∈b::l:=List.mem_cons_of_mem b h
def mX {α:Type _}{a:α}{l:List α}:a∈a::l:=List.mem_cons_self
def oX {α G:Type _}{o:Option α}{f:α->Option G}{b:G}(h:o.bind f=some b):∃a,o=some a/\f a=some b:=Option.bind_eq_some_iff.mp h
def oY {α G:Type _}{f:α->G}{o:Option α}{b:G}(h:o.map f=some b):∃a,o=some a/\f a=b:=Option.map_eq_some_iff.mp h
def wX:=@PySem.wpAny_bind
def wY:=@PySem.wpAny_pure
def vZ:=@PySem.Heap.get?_push_of_some
def vY:=@PySem.Heap.get?_push_size
def vX:=@PySem.Heap.lt_size
def vW:=@PySem.Heap.SameBut.update
def vV {α:Type _}{l:List α}{i:Nat}{a:α}(h:l[i]? = some a):∃h:i<l.length,l[i]=a:=List.getElem?_eq_some_iff.mp h
def vU {α:Type _}{l:List α}{i:Nat}(h:i<l.length):l[i]? = some l[i]:=List.getElem?_eq_getElem h
def vT (n:Nat):n<=n:=Nat.le_refl n
def vS {a b:Nat}(h:a<b):a≠b:=Nat.ne_of_lt h
def vR {n m k:Nat}:n<=m->m<=k->n<=k:=Nat.le_trans
def vQ {n m k:Nat}:n<m->m<=k->n<k:=Nat.lt_of_lt_of_le
def vP {α:Type _}{a b:α}{l:List α}(h:b∈a::l):b=a∨b∈l:=List.mem_cons.mp h
def vK {α:Type _}{a b:α}(h:some a=some b):a=b:=Option.some.inj h
def vJ {α G:Type _}(a:α)(f:α->Option G):(some a).bind f=f a:=rfl
def vI {α M:Type _}{G:List α}(f:α->M):(G.map f).length=G.length:=List.length_map f
def vH {α:Type _}{l:List α}:l.toArray.size=l.length:=rfl
def vG {α:Type _}{xs:Array α}:xs.toList.length=xs.size:=rfl
def vF {α:Type _}{l:List α}{i:Nat}{a:α}:l.getD i a=l[i]?.getD a:=List.getD_eq_getElem?_getD
def vE {α:Type _}{a:α}{G:List α}:(a::G).length=G.length+1:=rfl
def vD (a b:Bool):((a && b)=true)=(a=true/\b=true):=Bool.and_eq_true a b
def vC {α:Type _}{i j:Nat}{a:α}{l:List α}(h:i≠j):(l.set i a)[j]? = l[j]?:=List.getElem?_set_ne h
def vB {α G:Type _}{f:α->G}{l:List α}{i:Nat}:(l.map f)[i]? = Option.map f l[i]?:=List.getElem?_map
def vA {α:Type _}{G bs:List α}:(G++bs).length=G.length+bs.length:=List.length_append
def uZ {α G:Type _}{f:α->G}{a:α}{l:List α}:(a::l).map f=f a::l.map f:=rfl
def uY:false≠true:=Bool.false_ne_true
def uW:(false=true)=False:=Bool.false_eq_true
def uU {α:Type _}{a b:α}(h:a∈[b]):a=b:=List.mem_singleton.mp h
def uS {α:Type _}{l:List α}{p:α->Bool}(h:l.all p=true):∀x∈l,p x=true:=List.all_eq_true.mp h
def uO (n:Nat):0<=n:=Nat.zero_le n
noncomputable section
open PySem.W (Frag kia_one fnOf nsIn mg_of)
open List (mem_filter mem_range filterMap_cons mem_append getElem?_set_self mem_filterMap append_nil nodup_cons of_mem_zip length_take getElem?_replicate getElem?_append_left mem_of_getElem? length_replicate length_drop length_set all_cons any_cons length_singleton drop_eq_nil_of_le forIn_cons lookup_cons mem_map append_assoc not_mem_nil all_map length_range getElem_range mem_singleton forIn_nil lookup_cons_self find?_cons getElem_mem map_append nodup_append mem_cons nodup_nil getElem?_eq_none ext_getElem? map_map not_lt le_trans le_antisymm pairwise_cons lt_irrefl lt_trans nil_perm filter_cons cons_lt_cons_iff zip_cons_cons getD_cons_succ map_take map_drop all_eq_true length_zip)
open Nat (le_of_lt ne_of_gt lt_succ_self le_succ lt_of_le_of_lt le_add_right lt_succ_of_lt)
open Int (toNat_natCast le_refl)
open Array (getElem?_toList getD_eq_getD_getElem? getElem?_eq_getElem toList_inj)
open Option (isSome_iff_exists getD_none isNone_some map_some)
open PySem.F (slot_tuple_add entry_tuple_add args_tuple_add_2 plainAttrs_list slot_tuple_iterator_next slot_zip_next entry_zip_next args_zip_next_1 plain_set_new called_set slot_set_iter plain_extend_loop)
abbrev QV:=PySem.Value->PySem.Shared->Prop
abbrev AO:=List (PySem.Addr×PySem.Obj)
abbrev SV:=PySem.Str->Option PySem.Value
abbrev LU:=List PySem.Value
abbrev AV:=Array PySem.Value
abbrev LS:=List PySem.Str
abbrev QD:=List PySem.Expr
abbrev LN:=List Nat
abbrev LI:=List Int
abbrev OI:=Option Int
namespace L2
open PySem PySem.Spec PyProof.Rows
abbrev iI:=Sum Int Str
noncomputable def Az:iI->Value->Bool
 |.inl k,v=>Value.isInt k v
 |.inr x,v=>Value.isStrOf x v
noncomputable def FJ (w:World):iI->Int
 |.inl k=>hashInt k
 |.inr x=>hashStr w x
theorem bJ:∀ {k:iI}{v:Value},Az k v=true->(∃i t,k=Sum.inl i/\v=Value.int i t)∨(∃x t,k=Sum.inr x/\v=Value.str x t)
 |.inl i,v,h=>by
  obtain⟨t,e⟩:=Value.isInt_shape (k:=i) (v:=v) h;exact .inl ⟨i,t,rfl,e⟩
 |.inr x,v,h=>by
  obtain⟨t,e⟩:=Value.isStrOf_shape (x:=x) (v:=v) h;exact .inr ⟨x,t,rfl,e⟩
def Bc (a b:Int):decide ((Sum.inl a:iI)=Sum.inl b)=(a == b):=by
 by_cases e:a=b
 ·subst e;simp
 ·have h:¬(Sum.inl a:iI)=Sum.inl b:=λq=>e (Sum.inl.inj q);rw[decide_eq_false h];exact(beq_eq_false_iff_ne.mpr e).symm
def Bd (a b:Str):decide ((Sum.inr a:iI)=Sum.inr b)=decide (a=b):=by
 by_cases e:a=b
 ·subst e;simp
 ·have h:¬(Sum.inr a:iI)=Sum.inr b:=λq=>e (Sum.inr.inj q);rw[decide_eq_false h,decide_eq_false e]
def Be (a:Int)(b:Str):decide ((Sum.inl a:iI)=Sum.inr b)=false:=decide_eq_false (λq=>nomatch q)
def Bf (a:Str)(b:Int):decide ((Sum.inr a:iI)=Sum.inl b)=false:=decide_eq_false (λq=>nomatch q)
def si (prog:Program)(w:World):PySem.KeyKind prog w iI where
 is:=Az
 hash:=FJ w
 inj:=λv a b ha hb=>by
  rcases bJ ha with⟨i,t,rfl,rfl⟩|⟨x,t,rfl,rfl⟩
  ·rcases bJ hb with⟨j,u,rfl,e⟩|⟨y,u,rfl,e⟩
   ·injection e with G _;rw[G]
   ·exact nomatch e
  ·rcases bJ hb with⟨j,u,rfl,e⟩|⟨y,u,rfl,e⟩
   ·exact nomatch e
   ·injection e with G _;rw[G]
 byValue:=λk v h=>by
  rcases bJ h with⟨i,t,rfl,rfl⟩|⟨x,t,rfl,rfl⟩<;>rfl
 pyHash:=λM h=>by
  rcases bJ M with⟨i,t,rfl,rfl⟩|⟨x,t,rfl,rfl⟩
  ·exact wpAny_pyHash_int h
  ·exact wpAny_pyHash_str h
 eqBool:=λhu M h=>by
  rcases bJ hu with⟨i,t,rfl,rfl⟩|⟨x,t,rfl,rfl⟩
  ·rcases bJ M with⟨j,u,rfl,rfl⟩|⟨y,u,rfl,rfl⟩
   ·rw[Bc]at h;exact wpAny_eqBool_int h
   ·rw[Be]at h;exact SeqAt.EqAt.int_str i t y u _ _ _ _ h
  ·rcases bJ M with⟨j,u,rfl,rfl⟩|⟨y,u,rfl,rfl⟩
   ·rw[Bf]at h;exact SeqAt.EqAt.str_int x t j u _ _ _ _ h
   ·rw[Bd]at h;exact wpAny_eqBool_str h
 «strs»:=λk x t v h=>by
  rcases bJ h with⟨i,u,rfl,e⟩|⟨y,u,rfl,e⟩
  ·exact nomatch e
  ·injection e with G _;subst G;cases v<;>rfl
inductive V where
 |non|bl (b:Bool)|int (i:Int)|str (x:Str)|byt (b:Array UInt8)|flt (b:UInt64)|ref (a:Addr)|ty (n:String)
 deriving DecidableEq
def aP:V->Value->Prop
 |.non,u=>u=Value.none
 |.bl b,u=>u=Value.bool b
 |.int i,u=>∃t,u=Value.int i t
 |.str x,u=>∃t,u=Value.str x t
 |.byt b,u=>∃t,u=Value.bytes b t
 |.flt b,u=>∃t,u=Value.float b t
 |.ref a,u=>u=Value.ref a
 |.ty n,u=>u=Value.type n
abbrev aO:List V->LU->Prop:=Paired aP
def aO.length (r:aO xs us):xs.length=us.length:=Paired.length r
theorem aO.get:∀ {xs:List V}{us:LU}{i:Nat}{x:V},aO xs us->xs[i]? = some x->∃u,us[i]? = some u/\aP x u
 |_,_,_,_,.nil,e=>by simp at e
 |_,_,0,_,.cons r _,e=>by simp at e;subst e;exact⟨_,rfl,r⟩
 |_,_,i+1,x,.cons _ t,e=>by
  obtain⟨u,h1,h2⟩:=aO.get (i:=i) (x:=x) t (by simpa using e);exact⟨u,by simpa using h1,h2⟩
theorem aO.set (r:aP x u):∀ {xs:List V}{us:LU}(i:Nat),aO xs us->aO (xs.set i x) (us.set i u)
 |_,_,_,.nil=>.nil
 |_,_,0,.cons _ t=>.cons r t
 |_,_,i+1,.cons q t=>.cons q (aO.set r i t)
theorem aO.append:∀ {xs ys:List V}{us G:LU},aO xs us->aO ys G->aO (xs++ys) (us++G)
 |_,_,_,_,.nil,s=>s
 |_,_,_,_,.cons r t,s=>.cons r (aO.append t s)
theorem aO.take:∀ {xs:List V}{us:LU}(n:Nat),aO xs us->aO (xs.take n) (us.take n)
 |_,_,0,_=>.nil
 |_,_,_+1,.nil=>.nil
 |_,_,n+1,.cons r t=>.cons r (aO.take n t)
theorem aO.drop:∀ {xs:List V}{us:LU}(n:Nat),aO xs us->aO (xs.drop n) (us.drop n)
 |_,_,0,r=>r
 |_,_,_+1,.nil=>.nil
 |_,_,n+1,.cons _ t=>aO.drop n t
def aO.none_of:∀ {xs:List V}{us:LU}{i:Nat},aO xs us->xs[i]? = none->us[i]? = none:=λ{xs us i} r e=>by
 have h1:=r.length;have h2:xs.length<=i:=List.getElem?_eq_none_iff.mp e;exact List.getElem?_eq_none_iff.mpr (by omega)
def oW:Option V->Option Value->Prop
 |some v,some u=>aP v u
 |none,none=>True
 |_,_=>False
def KV {κ:Type}:List (κ×V)->List (κ×Value)->Prop:=Paired λ(p:κ×V) (q:κ×Value)=>p.1=q.1/\aP p.2 q.2
def kV:iI->V
 |.inl i=>.int i
 |.inr x=>.str x
inductive HO where
  |lst (xs:List V)
  |tup (xs:List V)
  |dK (bx:List (iI×V)) (ob:Obj)|dT (bx:List (List iI×V))
  |set (S:Int->Bool) (n:Nat)
  |ins (C dx:Addr) (fs:List (Str×V))
  |own (x:Addr)
  |xd (fs:List (Str×V))
  |met (f x:Addr)
  |rng (lo hi:Int)
  |frz (o:Obj) (u:HO)
  |tbl (q:Str)
  |ext (φ:Heap->Prop)
abbrev Hp:=Addr->Option HO
noncomputable def upd (H:Hp)(a:Addr)(o:HO):Hp:=λb=>if b=a then some o else H b
def a8:upd H a o a=some o:=by unfold upd;rw[if_pos rfl]
def aE (h:b≠a):upd H a o b=H b:=by unfold upd;rw[if_neg h]
def kC:upd (upd H a o) a u=upd H a u:=by
 funext b;unfold upd;split<;>rfl
def b7 {H:Hp}{a b:Addr}{o:HO}(h:H a=some o)(h':H b=none):a≠b:=by
 intro e;subst e;rw[h]at h';cases h'
section
variable (P:Program) (w:World)
def bH (H:Hp)(h:Heap)(a:Addr):HO->Prop
 |.lst xs=>xs.length<=sizeLine/\∃(its:LU)(n:Nat),aO xs its/\h.get? a=some { cls:=.type "list",data:=.seq its.toArray n }
 |.tup xs=>xs.length<=sizeLine/\∃its:LU,aO xs its/\IsTup h a its.toArray
 |.dK bx ob=>h.get? a=some ob/\bx.length<=sizeLine/\(a == sysModules)=false/\∃vs,KV bx vs/\h.DictOf (si P w) a vs
 |.dT bx=>bx.length<=sizeLine/\(a == sysModules)=false/\∃xs:List (List iI×Addr×Value),
   Paired (λ(p:List iI×V) (q:List iI×Addr×Value)=>p.1=q.1/\H q.2.1=some (.tup (p.1.map kV))/\aP p.2 q.2.2) bx xs /\
   ∃o es O,h.get? a=some o/\o.ExactDict/\o.data=.dict es O/\es.toList=xs.map (entryOfKey (tupleKind (si P w)))/\(xs.map (·.1)).Nodup
 |.set S n=>h.SetOf (intKind P w) a S n
 |.ins C dx fs=>H dx=some (.own a)/\fs.length<=1000/\dx≠a/\h.get? a=some (PySem.W.instObj C dx) /\
   ∃mA,h.Ns1 dx mA/\(∀f,oW (fs.lookup f) (mA f))/\PySem.Within mA (fs.map (·.1))
 |.own _=>∃o,h.get? a=some o
 |.xd fs=>∃mA,h.Ns1 a mA/\∀f,oW (fs.lookup f) (mA f)
 |.rng lo hi=>∃t u v,h.get? a=some { cls:=.type "range",data:=.fields #[.int lo t,.int hi u,.int 1 v] }
 |.frz o u=>h.get? a=some o/\bH H h a u
 |.tbl q=>∃ps:AV,h.get? a=some { cls:=.none,data:=.fields ps }/\TriplesOk ps.toList/\∀G M,codeAmong G ps.toList=some M->∃(c:Addr)(oc:Obj)(u:HO)(vs:AV)(t:Tok),M=.ref c/\H c=some (.frz oc u)/\oc.data=.fields vs/\vs[1]? = some (.str q t)
 |.met f x=>h.get? a=some (PySem.W.methodObj (.ref f) (.ref x))
 |.ext φ=>φ h/\(∃o,h.get? a=some o)/\∀h1 h2:Heap,φ h1->(∀o,h1.get? a=some o->h2.get? a=some o)->φ h2
def kD (H:Hp)(h:Heap):Prop:=∀a o,H a=some o->bH P w H h a o
end
section
variable {P:Program}{w:World}{H H':Hp}{h h':Heap}{a:Addr}{o:HO}
def bH.lt (x:bH P w H h a o):a<h.objs.size:=by
 cases o with
 |lst xs=>obtain⟨_,_,_,_,e⟩:=x;exact vX e
 |tup xs=>obtain⟨_,_,_,p⟩:=x;exact p.lt
 |dK bx ob=>exact vX (And.left x)
 |dT bx=>obtain⟨_,_,_,_,o,_,_,e,_⟩:=x;exact vX e
 |set S n=>obtain⟨o,_,_,_,e,_⟩:=x;exact vX e
 |ins C dx fs=>obtain⟨_,_,_,e,_⟩:=x;exact vX e
 |own y=>obtain⟨_,e⟩:=x;exact vX e
 |xd fs=>obtain⟨_,⟨_,_,_,e,_⟩,_⟩:=x;exact vX e
 |rng lo hi=>obtain⟨_,_,_,e⟩:=x;exact vX e
 |frz ob u=>obtain⟨e,_⟩:=x;exact vX e
 |tbl q=>obtain⟨_,e,_⟩:=x;exact vX e
 |met f y=>exact vX (show h.get? a=some _ from x)
 |ext φ=>obtain⟨_,⟨_,e⟩,_⟩:=x;exact vX e
theorem Paired.mapP {α T:Type}{F G:α->T->Prop}:∀ {M:List α}{O:List T},Paired F M O->(∀a b,F a b->G a b)->Paired G M O
 |_,_,.nil,_=>.nil
 |_,_,.cons r t,f=>.cons (f _ _ r) (Paired.mapP t f)
def bH.stay (x:bH P w H h a o)(k:∀b u,(b=a∨H b=some (.own a))->h.get? b=some u->h'.get? b=some u)
  (O:∀b,H b=some (.own a)->H' b=some (.own a)) (T:∀b xs,H b=some (.tup xs)->H' b=some (.tup xs)) (hf:∀b o u,H b=some (.frz o u)->H' b=some (.frz o u)):bH P w H' h' a o:=by
 induction o with
 |lst xs=>obtain⟨z,its,n,r,e⟩:=x;exact⟨z,its,n,r,k _ _ (.inl rfl) e⟩
 |tup xs=>obtain⟨z,its,r,ob,e,c⟩:=x;exact⟨z,its,r,ob,k _ _ (.inl rfl) e,c⟩
 |dK bx U=>obtain⟨g,z,y,vs,r,ob,es,G,e,c⟩:=x;exact⟨k _ _ (.inl rfl) g,z,y,vs,r,ob,es,G,k _ _ (.inl rfl) e,c⟩
 |dT bx=>
  obtain⟨z,y,xs,r,ob,es,G,e,c⟩:=x;exact⟨z,y,xs,Paired.mapP r λp q z=>⟨z.1,T _ _ z.2.1,z.2.2⟩,ob,es,G,k _ _ (.inl rfl) e,c⟩
 |set S n=>obtain⟨ob,es,G,t,e,c⟩:=x;exact⟨ob,es,G,t,k _ _ (.inl rfl) e,c⟩
 |ins C dx fs=>
  obtain⟨d,z,ne,e,mA,⟨od,es,G,e2,c⟩,r⟩:=x;exact⟨O _ d,z,ne,k _ _ (.inl rfl) e,mA,⟨od,es,G,k _ _ (.inr d) e2,c⟩,r⟩
 |own y=>obtain⟨ob,e⟩:=x;exact⟨ob,k _ _ (.inl rfl) e⟩
 |xd fs=>obtain⟨mA,⟨od,es,G,e,c⟩,r⟩:=x;exact⟨mA,⟨od,es,G,k _ _ (.inl rfl) e,c⟩,r⟩
 |rng lo hi=>obtain⟨t,u,v,e⟩:=x;exact⟨t,u,v,k _ _ (.inl rfl) e⟩
 |frz ob u ih=>obtain⟨e,q⟩:=x;exact⟨k _ _ (.inl rfl) e,ih q⟩
 |tbl q=>obtain⟨ps,e,t,c⟩:=x;exact⟨ps,k a _ (.inl rfl) e,t,λM cv z=>let ⟨d,oc,u,vs,tk,z1,z2,z3⟩:=c M cv z;⟨d,oc,u,vs,tk,z1,hf _ _ _ z2,z3⟩⟩
 |met f y=>
  have e:h.get? a=some (PySem.W.methodObj (.ref f) (.ref y)):=x;show h'.get? a=some (PySem.W.methodObj (.ref f) (.ref y));exact k a _ (.inl rfl) e
 |ext φ=>obtain⟨p,⟨o,e⟩,st⟩:=x;exact⟨st _ _ p λo q=>k _ _ (.inl rfl) q,⟨o,k _ _ (.inl rfl) e⟩,st⟩
def kD.lt (x:kD P w H h)(e:H a=some o):a<h.objs.size:=(x a o e).lt
def kD.fresh (x:kD P w H h)(e:h.objs.size<=a):H a=none:=by
 cases q:H a with
 |none=>rfl
 |some u=>exact absurd (vQ (x.lt q) e) (Nat.lt_irrefl _)
def kD.kept (x:kD P w H h)(k:∀b u,h.get? b=some u->h'.get? b=some u):kD P w H h':=λa o e=>
 (x a o e).stay (λb u _ q=>k b u q) (λ_ q=>q) (λ_ _ q=>q) λ_ _ _ q=>q
def kD.laid (x:kD P w H h)(k:∀b u,h.get? b=some u->h'.get? b=some u)(G:h.objs.size<=a)(new:bH P w (upd H a o) h' a o):kD P w (upd H a o) h':=λb u e=>by
 have hn:=x.fresh G;by_cases hb:b=a
 ·subst hb;rw[a8]at e;cases e;exact new
 ·rw[aE hb]at e;exact(x b u e).stay (λc v _ q=>k c v q) (λc q=>by rw[aE (b7 q hn)];exact q) (λc xs q=>by rw[aE (b7 q hn)];exact q) λc o xs q=>by rw[aE (b7 q hn)];exact q
end
def Rd (H:Hp)(a:Addr)(u:HO):Prop:=H a=some u∨∃o,H a=some (.frz o u)
def Rd.of (h:H a=some u):Rd H a u:=.inl h
def Rd.ok (r:Rd H a u)(x:kD P w H h):bH P w H h a u:=by
 rcases r with r|⟨o,r⟩
 ·exact x a u r
 ·obtain⟨_,q⟩:=x a _ r;exact q
def Fc:Option HO->Prop
 |some (.lst _)=>True
 |some (.dK _ _)=>True
 |some (.dT _)=>True
 |some (.set _ _)=>True
 |some (.ins _ _ _)=>True
 |some (.ext _)=>True
 |_=>False
section
variable {P:Program}{w:World}{H:Hp}{h h':Heap}{x e:Addr}{o':HO}
def kD.write (ok:kD P w H h)(O:Fc (H x))(he:e=x∨H e=some (.own x))(k:∀b u,b≠e->h.get? b=some u->h'.get? b=some u)(U:∃u,h'.get? e=some u)
  (new:bH P w (upd H x o') h' x o'):kD P w (upd H x o') h':=λb u q=>by
 have M:∀c y,H c=some (.own y)->c≠x:=λc y r z=>by subst z;rw[r]at O;exact O
 have T:∀c xs,H c=some (.tup xs)->c≠x:=λc xs r z=>by subst z;rw[r]at O;exact O
 by_cases hb:b=x
 ·subst hb;rw[a8]at q;cases q;exact new
 ·rw[aE hb]at q;by_cases G:b=e
  ·have q':H b=some (.own x):=by
    rcases he with z|z
    ·exact absurd (G.trans z) hb
    ·rw[G];exact z
   rw[q]at q';cases q';obtain⟨v,hv⟩:=U;exact⟨v,by rw[G];exact hv⟩
  ·refine(ok b u q).stay (λc v hc r=>k c v ?_ r) (λc r=>by rw[aE (M c b r)];exact r) (λc xs r=>by rw[aE (T c xs r)];exact r) λc o xs r=>by rw[aE (λz=>by subst z;rw[r]at O;exact O)];exact r
   rcases hc with rfl|hc
   ·exact G
   ·rintro rfl;rcases he with z|z
    ·exact M c b hc z
    ·rw[hc]at z;cases z;exact hb rfl
end
structure Un (fs ex:List Addr)(H H':Hp)(h h':Heap):Prop where
 keep:∀b o,h.get? b=some o->H b=none->b∉fs->b∉ex->h'.get? b=some o
 slot:∀b o,h.get? b=some o->H b=none->b∈fs->b∉ex->∃sl,h'.get? b=some { o with slots:=sl }
 free:∀b o,h.get? b=some o->H b=none->b∉ex->H' b=none
 there:∀b o,h.get? b=some o->b∉ex->∃o',h'.get? b=some o'
 tups:∀b xs,H b=some (.tup xs)->H' b=some (.tup xs)
 frzs:∀b o u,H b=some (.frz o u)->H' b=some (.frz o u)
 tbls:∀b q,H b=some (.tbl q)->H' b=some (.tbl q)
section
variable {fs Jt ex KY:List Addr}{H H1 H2:Hp}{h h1 h2 h':Heap}{a x e:Addr}{o:HO}
def Un.any (u:Un fs ex H H1 h h1)(q:h.get? b=some ob)(n:H b=none)(hx:b∉ex):∃sl,h1.get? b=some { ob with slots:=sl }:=by
 by_cases hb:b∈fs
 ·exact u.slot b ob q n hb hx
 ·exact⟨ob.slots,u.keep b ob q n hb hx⟩
def Un.trans (a:Un fs ex H H1 h h1)(b:Un fs ex H1 H2 h1 h2):Un fs ex H H2 h h2 where
 keep:=λc ob q n hc hx=>b.keep c ob (a.keep c ob q n hc hx) (a.free c ob q n hx) hc hx
 slot:=λc ob q n hc hx=>by
  obtain⟨sl,G⟩:=a.slot c ob q n hc hx;obtain⟨M,O⟩:=b.slot c _ G (a.free c ob q n hx) hc hx;exact⟨M,O⟩
 free:=λc ob q n hx=>by
  obtain⟨o',G⟩:=a.there c ob q hx;exact b.free c o' G (a.free c ob q n hx) hx
 there:=λc ob q hx=>by
  obtain⟨o',G⟩:=a.there c ob q hx;exact b.there c o' G hx
 tups:=λc xs q=>b.tups c xs (a.tups c xs q)
 frzs:=λc ob xs q=>b.frzs c ob xs (a.frzs c ob xs q)
 tbls:=λc ps q=>b.tbls c ps (a.tbls c ps q)
def Un.kept (k:∀b u,h.get? b=some u->h'.get? b=some u):Un fs ex H H h h' :=
 ⟨λb ob q _ _ _=>k b ob q,λb ob q _ _ _=>⟨ob.slots,k b ob q⟩,λ_ _ _ n _=>n,λb ob q _=>⟨ob,k b ob q⟩,λ_ _ q=>q,λ_ _ _ q=>q,λ_ _ q=>q⟩
def Un.refl:Un fs ex H H h h:=Un.kept λ_ _ q=>q
def Un.laid (k:∀b u,h.get? b=some u->h'.get? b=some u)(G:h.objs.size<=a)(hn:H a=none):Un fs ex H (upd H a o) h h' where
 keep:=λb u q _ _ _=>k b u q
 slot:=λb u q _ _ _=>⟨u.slots,k b u q⟩
 free:=λb u q n _=>by rw[aE (vS (vQ (vX q) G))];exact n
 there:=λb u q _=>⟨u,k b u q⟩
 tups:=λb xs q=>by rw[aE (b7 q hn)];exact q
 frzs:=λb u xs q=>by rw[aE (b7 q hn)];exact q
 tbls:=λb ps q=>by rw[aE (b7 q hn)];exact q
def Un.write (M:Fc (H x))(he:e=x∨H e=some (.own x))(k:∀b u,b≠e->h.get? b=some u->h'.get? b=some u)(O:∃u,h'.get? e=some u):Un fs ex H (upd H x o) h h':=by
 have hx:∀b,H b=none->b≠x:=λb n z=>by subst z;rw[n]at M;exact M
 have hb:∀b,H b=none->b≠e:=λb n z=>by
  subst z;rcases he with r|r
  ·exact hx b n r
  ·rw[n]at r;cases r
 have hm:∀b u,H b=some u->¬Fc (some u)->b≠x:=λb u q T z=>by subst z;rw[q]at M;exact T M
 refine⟨λb u q n _ _=>k b u (hb b n) q,λb u q n _ _=>⟨u.slots,k b u (hb b n) q⟩,λb u q n _=>by rw[aE (hx b n)];exact n,λb u q _=>?_,
  λb xs q=>by rw[aE (hm b _ q λz=>z)];exact q,λb u xs q=>by rw[aE (hm b _ q λz=>z)];exact q,λb ps q=>by rw[aE (hm b _ q λz=>z)];exact q⟩
 by_cases G:b=e
 ·subst G;exact O
 ·exact⟨u,k b u G q⟩
end
noncomputable def Fd (h:Heap)(H:Hp):List Addr:=(List.range h.objs.size).filter λa=>(H a).isSome
def oZ (h:Heap)(H:Hp):Heap:=PySem.W.hideAll h (Fd h H)
def ud (h:Heap)(H:Hp):(oZ h H).objs.size=h.objs.size:=PySem.W.hideAll_size _ _
def kN (e:h.get? b=some o)(n:H b=none):(oZ h H).get? b=some o :=
 PySem.W.hideAll_get _ e λhm=>by
  have q:(H b).isSome=true:=(mem_filter.mp hm).2;rw[n]at q;simp at q
def yG (e:(oZ h H).get? b=some o):h.get? b=some o/\H b=none:=by
 have G:h.get? b=some o:=PySem.W.of_hideAll (Fd h H) e;refine⟨G,?_⟩;cases q:H b with
 |none=>rfl
 |some x=>
  have hm:b∈Fd h H:=mem_filter.mpr ⟨mem_range.mpr (vX G),by simp[q]⟩;have z:(oZ h H).get? b=none:=PySem.W.hideAll_none (Fd h H) hm;rw[z]at e;cases e
noncomputable def yH (g h:Heap)(L:Addr):AO:=(List.range h.objs.size).filterMap λa=>if a=L∨(g.get? a).isSome=true then none else (h.get? a).map λo=>(a,o)
def ao (g h:Heap)(L d:Addr):AO:=(yH g h L).filter λp=>decide (p.1≠d)
structure Mod (K:Frag)(mg:Str->Option Value)(base:Heap):Prop where
 kin:K.In base
 glob:base.Ns mainGlobals mg
 blt:∃mb,base.Ns builtinsNs mb/\∀x:Str,x ≠ "__name__"->mb x=bootBuiltins x
 nolimit:base.NoLimit
 bmain:∃bm ob,mg "__builtins__" = some (.ref bm)/\bm≠builtinsNs/\base.get? bm=some ob/\ob.cls=.type "module"/\ob.dict=some builtinsNs/\ob.data=.plain
structure Cx where
 prog:Program
 w:World
 K:Frag
 mg:Str->Option Value
 base:Heap
 A:Around
 N:List Str
 s₀:Shared
 H₀:Hp
 env:Env
 outer:List Env
 stack:List Env
 ex:List Addr
 fn:Str->Bool
 calm:Bool
 pn:List (Addr×Obj)
 xe:Value->Shared->Prop
def vy (l:List Env):List Addr:=l.filterMap (·.frame)
abbrev Cx.fs (X:Cx):List Addr:=vy X.outer
def Dl (sc:Scope)(x:Str):Prop:=sc.names.lookup x=some .local∨sc.names.lookup x=some .cell∨sc.names.lookup x=some .free
def yI (sc:Scope)(x:Str):Prop:=sc.names.lookup x=some .local∨sc.names.lookup x=some .cell
def FK (env:Env)(h:Heap)(m:SV)(x:Str)(u:Value):Prop :=
 (env.kindOf x=some .local/\m x=some u)∨((env.kindOf x=some .cell∨env.kindOf x=some .free)/\∃c,env.cells.lookup x=some c/\h.IsCell c (some u))
abbrev wq {α:Type}(X:Cx):Sem α->(α->Shared->Prop)->(Value->Shared->Prop)->Shared->Prop:=wpAny (model X.prog X.w) X.A
structure Cx.Ok (X:Cx):Prop where
 mod:Mod X.K X.mg X.base
 kind:X.env.scope.kind=.function
 glob:X.env.globals=mainGlobals
 blt:X.env.builtins=builtinsNs
 above:X.s₀.heap.objs.size<=X.env.locals
 inj:∀x y c,X.env.cells.lookup x=some c->X.env.cells.lookup y=some c->x=y
 has:∀x,(X.env.kindOf x=some .cell∨X.env.kindOf x=some .free)->∃c,X.env.cells.lookup x=some c
 cab:∀x c,X.fn x=true->X.env.cells.lookup x=some c->X.s₀.heap.objs.size<=c
 hd:X.calm=true->X.A.handled=none
 frames:X.A.frames=some X.stack
 stk:X.stack=X.outer∨(X.stack=X.env::X.outer/\X.env.frame=some X.env.locals)
 exf:∀b∈X.ex,b≠X.env.locals/\∀x c,X.env.cells.lookup x=some c->c≠b
 bs:∀b o,X.base.get? b=some o->X.s₀.heap.get? b=some o/\X.H₀ b=none
 bsz:X.base.objs.size<=X.s₀.heap.objs.size
 noex:∀b o,X.base.get? b=some o->b∉X.ex
 exfs:∀b∈X.ex,b∉X.fs
 funs:X.s₀.heap.FunFrames X.base X.outer
 frf:∀b∈X.fs,X.H₀ b=none
structure Inv (X:Cx)(aa:List (Addr×Obj))(σ:List (Option V))(H:Hp)(s:Shared):Prop where
 ok:X.Ok
 os:s.os=X.s₀.os
 bare:AllBare s.gens
 base:Un X.fs X.ex X.H₀ H X.s₀.heap s.heap
 loc:∃m,s.heap.Ns X.env.locals m/\∀(i:Nat)(x:Str)(v:V),X.N[i]? = some x->σ[i]? = some (some v)->Dl X.env.scope x->∃u,aP v u/\FK X.env s.heap m x u
 cell:∀x c,X.env.cells.lookup x=some c->∃v,s.heap.IsCell c v
 free:H X.env.locals=none
 freeC:∀x c,X.env.cells.lookup x=some c->H c=none
 pin:∀p∈X.pn++aa,s.heap.get? p.1=some p.2/\H p.1=none/\p.1≠X.env.locals/\p.1∉X.fs/\∀v,p.2.data≠.cell v
 hok:kD X.prog X.w H s.heap
 len:σ.length=X.N.length
section
variable {X:Cx}{aa:AO}{σ:List (Option V)}{H H':Hp}{s:Shared}{h':Heap}
def Cx.Ok.nofr (ok:X.Ok)(e:X.base.get? b=some o):b∉X.fs:=λhb=>by
 have:=(ok.funs.mem hb).1;rw[e]at this;cases this
def Inv.bs (I:Inv X aa σ H s):∀b o,X.base.get? b=some o->s.heap.get? b=some o/\H b=none:=λb o e=>
 ⟨I.base.keep b o (I.ok.bs b o e).1 (I.ok.bs b o e).2 (I.ok.nofr e) (I.ok.noex b o e),I.base.free b o (I.ok.bs b o e).1 (I.ok.bs b o e).2 (I.ok.noex b o e)⟩
def Inv.bk (I:Inv X aa σ H s):∀b o,X.base.get? b=some o->s.heap.get? b=some o:=λb o e=>(I.bs b o e).1
def Inv.mod (I:Inv X aa σ H s):Mod X.K X.mg X.base:=I.ok.mod
def Inv.kIn (I:Inv X aa σ H s):X.K.In s.heap:=I.ok.mod.kin.keeps I.bk
def Inv.lt (I:Inv X aa σ H s):X.env.locals<s.heap.objs.size:=let ⟨_,hn,_⟩:=I.loc;hn.lt
def Inv.sz (I:Inv X aa σ H s):X.s₀.heap.objs.size<=s.heap.objs.size:=vR I.ok.above (le_of_lt I.lt)
def Inv.nofs (I:Inv X aa σ H s)(h:s.heap.objs.size<=a):a∉X.fs:=λhb=>by
 obtain⟨_,o,G,_⟩:=I.ok.funs.mem hb;exact absurd (vQ (vX G) (vR I.sz h)) (Nat.lt_irrefl _)
def Inv.cne (I:Inv X aa σ H s):∀x c,X.env.cells.lookup x=some c->c≠X.env.locals:=λx c e z=>by
 obtain⟨v,o,O,hd⟩:=I.cell x c e;obtain⟨m,⟨o',es,T,G,M,_⟩,_⟩:=I.loc;rw[z,G]at O;cases O;rw[M]at hd;cases hd
def Inv.funs (I:Inv X aa σ H s):s.heap.FunFrames X.base X.outer:=by
 have all:∀(l:List Env),(∀b∈vy l,b∈X.fs)->X.s₀.heap.FunFrames X.base l->s.heap.FunFrames X.base l:=by
  intro l;induction l with
  |nil=>intro _ _;trivial
  |cons env r M=>
   intro hs hl;obtain⟨hk,⟨L,o,hf,hn,O,hd⟩,T⟩:=hl;have G:L∈X.fs:=hs L (by unfold vy;rw[filterMap_cons,hf];exact mX);obtain⟨sl,e⟩:=I.base.slot L o O (I.ok.frf L G) G λz=>I.ok.exfs L z G;exact⟨hk,⟨L,_,hf,hn,e,hd⟩,M (λb hb=>hs b (by unfold vy;rw[filterMap_cons,hf];exact mZ _ hb)) T⟩
 exact all X.outer (λ_ hb=>hb) I.ok.funs
def Inv.stack (I:Inv X aa σ H s):s.heap.FunFrames X.base X.stack:=by
 rcases I.ok.stk with e|⟨e,hf⟩
 ·rw[e];exact I.funs
 ·rw[e];obtain⟨m,hn,_⟩:=I.loc;refine .cons (by rw[I.ok.kind];decide) hf hn ?_ I.funs;exact Heap.get?_none_of_le (vR I.ok.bsz I.ok.above)
def Inv.stkSub (I:Inv X aa σ H s):∀b∈vy X.stack,b∈X.env.locals::X.fs:=λb hb=>by
 rcases I.ok.stk with e|⟨e,hf⟩
 ·rw[e]at hb;exact mZ _ hb
 ·rw[e]at hb;unfold vy at hb;rw[filterMap_cons,hf]at hb;exact hb
def Inv.stkFree (I:Inv X aa σ H s):∀b∈vy X.stack,H b=none:=λb hb=>by
 rcases vP (I.stkSub b hb)with e|hb
 ·rw[e];exact I.free
 ·obtain⟨_,o,G,_⟩:=I.ok.funs.mem hb;exact I.base.free b o G (I.ok.frf b hb) λz=>I.ok.exfs b z hb
def Inv.step {g':Array GenState}{t':Nat}{d':Drawn}{ch:List Addr}(I:Inv X aa σ H s)
  (G:∀b∈ch,(b∈X.ex∨X.s₀.heap.objs.size<=b)/\b≠X.env.locals/\(∀x c,X.env.cells.lookup x=some c->c≠b)/\∀p∈X.pn++aa,p.1≠b)
  (keep:∀b o,b≠X.env.locals->b∉X.fs->b∉ch->s.heap.get? b=some o->H b=none->h'.get? b=some o)
  (slot:∀b o,b≠X.env.locals->b∈X.fs->b∉ch->s.heap.get? b=some o->H b=none->∃sl,h'.get? b=some { o with slots:=sl }) (free:∀b o,b∉ch->s.heap.get? b=some o->H b=none->H' b=none)
  (there:∀b o,b∉ch->s.heap.get? b=some o->∃o',h'.get? b=some o')
  (tups:∀b xs,H b=some (.tup xs)->H' b=some (.tup xs)) (frzs:∀b o u,H b=some (.frz o u)->H' b=some (.frz o u)) (tbls:∀b q,H b=some (.tbl q)->H' b=some (.tbl q))
  (ns:∀m,s.heap.Ns X.env.locals m->h'.Ns X.env.locals m) (hok:kD X.prog X.w H' h') (hg:AllBare g'):
  Inv X aa σ H' { s with heap:=h',gens:=g',drawn:=d',toks:=t' }:=by
 have HN:∀b o,X.s₀.heap.get? b=some o->b≠X.env.locals:=λb o e=>vS (vQ (vX e) I.ok.above);have T:∀b o,X.s₀.heap.get? b=some o->b∉X.ex->b∉ch:=λb o e hx hb=>by
  rcases (G b hb).1 with z|z
  ·exact hx z
  ·exact absurd (vQ (vX e) z) (Nat.lt_irrefl _)
 have M:∀x c,X.env.cells.lookup x=some c->∀v,s.heap.IsCell c v->h'.IsCell c v:=λx c e v ⟨o,ho,hd⟩=>by
  have O:c∉ch:=λz=>(G c z).2.2.1 x c e rfl;by_cases hc:c∈X.fs
  ·obtain⟨sl,q⟩:=slot c o (I.cne x c e) hc O ho (I.freeC x c e);exact⟨_,q,hd⟩
  ·exact⟨o,keep c o (I.cne x c e) hc O ho (I.freeC x c e),hd⟩
 refine⟨I.ok,I.os,hg,⟨λb o e n hb hx=>?_,λb o e n hb hx=>?_,λb o e n hx=>?_,λb o e hx=>?_,λb xs e=>tups b xs (I.base.tups b xs e),λb o xs e=>frzs b o xs (I.base.frzs b o xs e),λb ps e=>?_⟩,?_,λx c e=>?_,?_,λx c e=>?_,λp hp=>?_,hok,I.len⟩
 ·exact keep b o (HN b o e) hb (T b o e hx) (I.base.keep b o e n hb hx) (I.base.free b o e n hx)
 ·obtain⟨sl,U⟩:=I.base.slot b o e n hb hx;obtain⟨Ju,e2⟩:=slot b _ (HN b o e) hb (T b o e hx) U (I.base.free b o e n hx);exact⟨Ju,e2⟩
 ·obtain⟨o',U⟩:=I.base.there b o e hx;exact free b o' (T b o e hx) U (I.base.free b o e n hx)
 ·obtain⟨o',U⟩:=I.base.there b o e hx;exact there b o' (T b o e hx) U
 ·exact tbls b _ (I.base.tbls b ps e)
 ·obtain⟨m,hn,hl⟩:=I.loc;refine⟨m,ns m hn,λi x v U e2 e3=>?_⟩;obtain⟨u,r,l⟩:=hl i x v U e2 e3;refine⟨u,r,?_⟩;rcases l with l|⟨k,c,e,z⟩
  ·exact .inl l
  ·exact .inr ⟨k,c,e,M x c e _ z⟩
 ·obtain⟨v,z⟩:=I.cell x c e;exact⟨v,M x c e v z⟩
 ·obtain⟨m,⟨o,_,_,ho,_⟩,_⟩:=I.loc;exact free _ o (λz=>(G _ z).2.1 rfl) ho I.free
 ·obtain⟨v,o,ho,hd⟩:=I.cell x c e;exact free c o (λz=>(G c z).2.2.1 x c e rfl) ho (I.freeC x c e)
 ·obtain⟨e,n,ne,nf,d⟩:=I.pin p hp;have O:p.1∉ch:=λz=>(G p.1 z).2.2.2 p hp rfl;exact⟨keep p.1 p.2 ne nf O e n,free p.1 p.2 O e n,ne,nf,d⟩
def Inv.un {t':Nat}(I:Inv X aa σ H s)(u:Un X.fs [] H H' s.heap h')(hok:kD X.prog X.w H' h'):Inv X aa σ H' { s with heap:=h',toks:=t' }:=by
 obtain⟨m,⟨o,es,ep,T,r⟩,_⟩:=id I.loc;obtain⟨sl,U⟩:=u.any T I.free (by simp);exact I.step (g':=s.gens) (d':=s.drawn) (ch:=[]) (λ_ z=>nomatch z) (λb o _ hb _ e n=>u.keep b o e n hb (by simp)) (λb o _ hb _ e n=>u.slot b o e n hb (by simp)) (λb o _ e n=>u.free b o e n (by simp)) (λb o _ e=>u.there b o e (by simp)) u.tups u.frzs u.tbls (λm' hm=>by
  obtain⟨o',M,O,G,r'⟩:=hm;rw[T]at G;cases G;exact⟨_,M,O,U,r'⟩) hok I.bare
def Inv.call {g':Array GenState}{t':Nat}{d':Drawn}{ch:List Addr}(I:Inv X aa σ H s)(u:Un (vy X.stack) ch H H' s.heap h')(hok:kD X.prog X.w H' h')(hg:AllBare g')
  (G:∀b∈ch,(b∈X.ex∨X.s₀.heap.objs.size<=b)/\b≠X.env.locals/\(∀x c,X.env.cells.lookup x=some c->c≠b)/\∀p∈X.pn++aa,p.1≠b):
  Inv X aa σ H' { s with heap:=h',gens:=g',drawn:=d',toks:=t' }:=by
 obtain⟨m,⟨o,es,ep,ho,r⟩,_⟩:=id I.loc;obtain⟨sl,O⟩:=u.any ho I.free λz=>(G _ z).2.1 rfl;exact I.step (ch:=ch) G (λb o O hb hc e n=>u.keep b o e n (λz=>(vP (I.stkSub b z)).elim O hb) hc) (λb o _ _ hc e n=>u.any e n hc) (λb o hc e n=>u.free b o e n hc) (λb o hc e=>u.there b o e hc) u.tups u.frzs u.tbls (λm' hm=>by
  obtain⟨o',T,U,M,r'⟩:=hm;rw[ho]at M;cases M;exact⟨_,T,U,O,r'⟩) hok hg
def Inv.turned {t':Nat}{it:Addr}(I:Inv X aa σ H s)(k:∀b o,b≠it->s.heap.get? b=some o->h'.get? b=some o)(hn:H it=none)(M:it≠X.env.locals)
  (h1:it∈X.ex∨X.s₀.heap.objs.size<=it) (h2:∀x c,X.env.cells.lookup x=some c->c≠it) (h3:∀p∈X.pn++aa,p.1≠it):Inv X aa σ H { s with heap:=h',toks:=t' }:=by
 have G:∀b u,H b=some u->b≠it:=λb u e z=>by rw[z,hn]at e;cases e
 refine I.step (g':=s.gens) (d':=s.drawn) (ch:=[it]) (λb hb=>?_) (λb o _ _ hc e _=>k b o (λz=>hc (by simp[z])) e) (λb o _ _ hc e _=>⟨o.slots,k b o (λz=>hc (by simp[z])) e⟩) (λ_ _ _ _ n=>n)
  (λb o hc e=>⟨o,k b o (λz=>hc (by simp[z])) e⟩) (λ_ _ e=>e) (λ_ _ _ e=>e) (λ_ _ e=>e) (λm hm=>?_) (λb u e=>?_) I.bare
 ·have e:b=it:=by simpa using hb
  subst e;exact⟨h1,M,h2,h3⟩
 ·obtain⟨o,es,O,T,r⟩:=hm;exact⟨o,es,O,k _ o (Ne.symm M) T,r⟩
 ·refine(I.hok b u e).stay (λc v hc q=>k c v ?_ q) (λ_ q=>q) (λ_ _ q=>q) λ_ _ _ q=>q;rcases hc with z|z
  ·rw[z];exact G b u e
  ·exact G c _ z
def Inv.tok (I:Inv X aa σ H s)(t:Nat):Inv X aa σ H { s with toks:=t }:=I.un (h':=s.heap) (t':=t) Un.refl I.hok
def Inv.kept (I:Inv X aa σ H s)(k:∀b u,s.heap.get? b=some u->h'.get? b=some u):Inv X aa σ H { s with heap:=h',toks:=t' }:=I.un (Un.kept k) (I.hok.kept k)
def Inv.laid (I:Inv X aa σ H s)(k:∀b u,s.heap.get? b=some u->h'.get? b=some u)(G:s.heap.objs.size<=a)(new:bH X.prog X.w (upd H a o) h' a o):
  Inv X aa σ (upd H a o) { s with heap:=h',toks:=t' }:=I.un (Un.laid k G (I.hok.fresh G)) (I.hok.laid k G new)
def Inv.write (I:Inv X aa σ H s)(M:Fc (H x))(he:e=x∨H e=some (.own x))(k:∀b u,b≠e->s.heap.get? b=some u->h'.get? b=some u)(G:∃u,h'.get? e=some u)
  (new:bH X.prog X.w (upd H x o) h' x o):Inv X aa σ (upd H x o) { s with heap:=h',toks:=t' }:=I.un (Un.write M he k G) (I.hok.write M he k G new)
def Inv.pins_of (I:Inv X aa σ H s)(h:∀p∈pins',s.heap.get? p.1=some p.2/\H p.1=none/\p.1≠X.env.locals/\p.1∉X.fs/\∀v,p.2.data≠.cell v):Inv X pins' σ H s :=
 ⟨I.ok,I.os,I.bare,I.base,I.loc,I.cell,I.free,I.freeC,λp G=>(mem_append.mp G).elim (λz=>I.pin p (List.mem_append_left _ z)) (h p),I.hok,I.len⟩
def pb {N:LS}(G:N.Nodup){i j:Nat}{x:Str}(a:N[i]? = some x)(b:N[j]? = some x):i=j:=by
 obtain⟨h1,M⟩:=vV a;obtain⟨h2,O⟩:=vV b;exact(List.getElem_inj G).mp (M.trans O.symm)
def mz {M:Model}{A:Around}{E:QV}{i:Nat}{x:Str}{v:V}{u:Value}{Q:Unit->Shared->Prop}(I:Inv X aa σ H s)(hN:X.N.Nodup)(hi:X.N[i]? = some x)(hx:yI X.env.scope x)(r:aP v u)
  (h:∀s',Inv X aa (σ.set i (some v)) H s'->(∃a,Heap.SameBut a s.heap s'.heap/\(a=X.env.locals∨X.env.cells.lookup x=some a))->Q () s') (hf:X.fn x=true∨X.env.scope.names.lookup x=some .local:=by first|exact .inl rfl|exact .inr rfl|assumption):wpAny M A (storeName X.env x u) Q E s:=by
 obtain⟨m,hn,hl⟩:=id I.loc;have GA:(X.env.scope.kind == .class || (X.env.scope.kind == .module && X.env.locals != X.env.globals))=false:=by rw[I.ok.kind];rfl
 have E7:i<σ.length:=by rw[I.len];exact(vV hi).1
 have cne:=I.cne;have G:∀ {a:Addr}{h':Heap},(∃o,s.heap.get? a=some o/\H a=none)->Heap.SameBut a s.heap h'->kD X.prog X.w H h':=λ{a h'} ha hs b ob e=>by
  obtain⟨_,_,T⟩:=ha;refine(I.hok b ob e).stay (λc w' hc q=>(hs.2 c ?_).trans q) (λ_ q=>q) (λ_ _ q=>q) λ_ _ _ q=>q;rintro rfl;rcases hc with rfl|hc
  ·rw[T]at e;cases e
  ·rw[T]at hc;cases hc
 rcases hx with hk|hk
 ·refine wpAny_storeName_local hk hn (λh' Fp hs=>?_) GA;obtain⟨oL,_,_,Jv,_⟩:=id hn;refine h _ ⟨I.ok,I.os,I.bare,⟨λb o e n hb hx=>?_,λb o e n hb hx=>?_,I.base.free,λb o e hx=>?_,I.base.tups,I.base.frzs,I.base.tbls⟩,⟨_,Fp,λj y v' O U e3=>?_⟩,λy c e=>?_,I.free,I.freeC,λp hp=>?_,G ⟨oL,Jv,I.free⟩ hs,by simpa using I.len⟩ ⟨_,hs,.inl rfl⟩
  ·exact(hs.2 b (vS (vQ (vX e) I.ok.above))).trans (I.base.keep b o e n hb hx)
  ·obtain⟨sl,O⟩:=I.base.slot b o e n hb hx;exact⟨sl,(hs.2 b (vS (vQ (vX e) I.ok.above))).trans O⟩
  ·obtain⟨o',O⟩:=I.base.there b o e hx;exact⟨o',(hs.2 b (vS (vQ (vX e) I.ok.above))).trans O⟩
  ·by_cases hj:j=i
   ·subst hj;rw[hi]at O;cases O;rw[getElem?_set_self E7]at U;cases U
    exact⟨u,r,.inl ⟨hk,by simp⟩⟩
   ·rw[vC (Ne.symm hj)]at U;obtain⟨u',r',q⟩:=hl j y v' O U e3;refine⟨u',r',?_⟩;rcases q with⟨k,e⟩|⟨k,c,e,z⟩
    ·refine .inl ⟨k,?_⟩;have:y≠x:=λe=>hj (pb hN O (e ▸ hi));simp[this,e]
    ·exact .inr ⟨k,c,e,z.sameBut hs (cne y c e)⟩
  ·obtain⟨w',z⟩:=I.cell y c e;exact⟨w',z.sameBut hs (cne y c e)⟩
  ·obtain⟨e,n,ne,nf,d⟩:=I.pin p hp;exact⟨(hs.2 p.1 ne).trans e,n,ne,nf,d⟩
 ·have GB:X.fn x=true:=by
   rcases hf with z|z
   ·exact z
   ·rw[z]at hk;cases hk
  obtain⟨c,hc⟩:=I.ok.has x (.inl hk);obtain⟨w',z⟩:=I.cell x c hc;refine wpAny_storeName_cell I.ok.kind hk hc z (λh' Fq hs=>?_);obtain⟨oc,HP,GC⟩:=id z;refine h { s with heap:=h' } ⟨I.ok,I.os,I.bare,⟨λb o e n hb hx=>?_,λb o e n hb hx=>?_,I.base.free,λb o e hx=>?_,I.base.tups,I.base.frzs,I.base.tbls⟩,⟨m,hn.sameBut hs (Ne.symm (cne x c hc)),λj y v' O U e3=>?_⟩,λy c' e=>?_,I.free,I.freeC,λp hp=>?_,G ⟨oc,HP,I.freeC x c hc⟩ hs,by simpa using I.len⟩ ⟨c,hs,.inr hc⟩
  ·exact(hs.2 b (vS (vQ (vX e) (I.ok.cab x c GB hc)))).trans (I.base.keep b o e n hb hx)
  ·obtain⟨sl,O⟩:=I.base.slot b o e n hb hx;exact⟨sl,(hs.2 b (vS (vQ (vX e) (I.ok.cab x c GB hc)))).trans O⟩
  ·obtain⟨o',O⟩:=I.base.there b o e hx;exact⟨o',(hs.2 b (vS (vQ (vX e) (I.ok.cab x c GB hc)))).trans O⟩
  ·by_cases hj:j=i
   ·subst hj;rw[hi]at O;cases O;rw[getElem?_set_self E7]at U;cases U
    exact⟨u,r,.inr ⟨.inl hk,c,hc,Fq⟩⟩
   ·rw[vC (Ne.symm hj)]at U;obtain⟨u',r',q⟩:=hl j y v' O U e3;refine⟨u',r',?_⟩;rcases q with q|⟨k,c',e,z'⟩
    ·exact .inl q
    ·refine .inr ⟨k,c',e,z'.sameBut hs ?_⟩;rintro rfl;exact hj (pb hN O (I.ok.inj _ _ _ e hc ▸ hi))
  ·by_cases hcc:c'=c
   ·subst hcc;exact⟨_,Fq⟩
   ·obtain⟨w2,z2⟩:=I.cell y c' e;exact⟨w2,z2.sameBut hs hcc⟩
  ·obtain⟨e,n,ne,nf,d⟩:=I.pin p hp;refine⟨(hs.2 p.1 ?_).trans e,n,ne,nf,d⟩;intro q;rw[q,HP]at e;have q':oc=p.2:=vK e;exact d w' (by rw[←q'];exact GC)
def pc {M:Model}{A:Around}{E:QV}{i:Nat}{x:Str}{v:V}{u:Value}{Q:Unit->Shared->Prop}(I:Inv X aa σ H s)(O:X.N.Nodup)(hi:X.N[i]? = some x)(hx:yI X.env.scope x)(r:aP v u)
  (h:∀G,Inv X aa (σ.set i (some v)) H G->Q () G) (hf:X.fn x=true∨X.env.scope.names.lookup x=some .local:=by first|exact .inl rfl|exact .inr rfl|assumption):wpAny M A (storeName X.env x u) Q E s :=
 mz I O hi hx r (λG T _=>h G T) hf
def Inv.call' (I:Inv X aa σ H s)(M:s'.os=s.os)(u:Un (vy X.stack) ch H H' s.heap s'.heap)(hok:kD X.prog X.w H' s'.heap)(O:AllBare s'.gens)
  (G:∀b∈ch,(b∈X.ex∨X.s₀.heap.objs.size<=b)/\b≠X.env.locals/\(∀x c,X.env.cells.lookup x=some c->c≠b)/\∀p∈X.pn++aa,p.1≠b):Inv X aa σ H' s':=by
 obtain⟨h',g',d',t',o'⟩:=s';have e:o'=s.os:=M;subst e;exact I.call (g':=g') (t':=t') (d':=d') u hok O G
end
abbrev XK:=Value->Option Addr->Hp->Prop
abbrev St:=List (Option V)
abbrev VK:=V->Hp->Prop
abbrev TE:=St->Hp->VK->Prop
abbrev TT:=St->Hp->(Bool->Hp->Prop)->Prop
abbrev TA:=St->Hp->(List V->Hp->Prop)->Prop
structure Ends where
 nx:St->Hp->Prop
 rt:VK
 bk:St->Hp->Prop:=λ_ _=>False
 ct:St->Hp->Prop:=λ_ _=>False
abbrev TS:=Ends->St->Hp->Prop
def EP (X:Cx)(aa:AO)(σ:St)(Q:VK)(u:Value)(G:Shared):Prop:=∃v H',Inv X aa σ H' G/\aP v u/\Q v H'
def TP (X:Cx)(aa:AO)(σ:St)(Q:Bool->Hp->Prop)(b:Bool)(G:Shared):Prop:=∃H',Inv X aa σ H' G/\Q b H'
def AP (X:Cx)(aa:AO)(σ:St)(Q:List V->Hp->Prop)(us:LU)(G:Shared):Prop:=∃vs H',Inv X aa σ H' G/\aO vs us/\Q vs H'
def SP (X:Cx)(aa:AO)(D:Ends)(f:Flow)(M:Shared):Prop :=
 match f with
 |.next=>∃G H',Inv X aa G H' M/\D.nx G H'
 |.brk=>∃G H',Inv X aa G H' M/\D.bk G H'
 |.cont=>∃G H',Inv X aa G H' M/\D.ct G H'
 |.ret u=>∃v G H',Inv X aa G H' M/\aP v u/\D.rt v H'
def PE (X:Cx)(e:Expr)(t:TE):Prop :=
 ∀(aa:AO)(s:Shared)(σ:St)(H:Hp)(Q:VK),Inv X aa σ H s->t σ H Q->wq X (eval e X.env) (EP X aa σ Q) X.xe s
def PT (X:Cx)(e:Expr)(t:TT):Prop :=
 ∀(aa:AO)(s:Shared)(σ:St)(H:Hp)(Q:Bool->Hp->Prop),Inv X aa σ H s->t σ H Q->wq X (isTrue e X.env (eval e X.env)) (TP X aa σ Q) X.xe s
def PW (X:Cx)(e:Expr)(t:TT):Prop :=
 ∀(G:Sem Value)(aa:AO)(s:Shared)(σ:St)(H:Hp)(Q:Bool->Hp->Prop),Inv X aa σ H s->t σ H Q->wq X (isTrue e X.env G) (TP X aa σ Q) X.xe s
def PW.pt (h:PW X e t):PT X e t:=h _
def PA (X:Cx)(es:QD)(t:TA):Prop :=
 ∀(G:Pos)(aa:AO)(s:Shared)(σ:St)(H:Hp)(Q:List V->Hp->Prop),Inv X aa σ H s->t σ H Q->wq X (spliced (backTo G (starEach es X.env))) (AP X aa σ Q) X.xe s
def PS (X:Cx)(st:Stmt)(t:TS):Prop :=
 ∀(aa:AO)(s:Shared)(σ:St)(H:Hp)(D:Ends),Inv X aa σ H s->t D σ H->wq X (exec st X.env) (SP X aa D) X.xe s
def me (X:Cx)(st:List Stmt)(t:TS):Prop :=
 ∀(aa:AO)(s:Shared)(σ:St)(H:Hp)(D:Ends),Inv X aa σ H s->t D σ H->wq X (execs st X.env) (SP X aa D) X.xe s
def bN {α:Type}{t:Sem α}{Q G:α->Shared->Prop}{M:Model}{A:Around}{E:QV}{s:Shared}(h:wpAny M A t Q E s)(O:∀a s,Q a s->G a s):wpAny M A t G E s:=wpAny_mono h O λ_ _ x=>x
section
variable {X:Cx}
def mf (i:Nat):TE:=λσ H Q=>∃v,σ[i]? = some (some v)/\Q v H
def tC (v:V):TE:=λ_ H Q=>Q v H
def qP (T:X.N[i]? = some x)(U:Dl X.env.scope x)(hd:(x == ("__debug__" : Str))=false:=by decide)(O:(x == ("__classdict__" : Str))=false:=by decide):PE X (.Name x pos) (mf i):=by
 intro aa s σ H Q I h;obtain⟨v,e,h⟩:=h;obtain⟨m,hn,hl⟩:=I.loc;obtain⟨u,r,l⟩:=hl i x v T e U;have M:EP X aa σ Q u s:=⟨v,H,I,r,h⟩;rcases l with⟨hk,hm⟩|⟨hk,c,hc,G⟩
 ·exact wpAny_Name (wpAny_loadName_local I.ok.kind hk hn hm M) hd
 ·rcases hk with hk|hk
  ·exact wpAny_Name (wpAny_loadName_cell I.ok.kind hk hc G M) hd
  ·exact wpAny_Name (wpAny_loadName_free I.ok.kind hk hc G M O) hd
def wc {i j pos}:PE X (.Constant (.int i) j pos) (tC (.int i)):=λ_ _ _ H _ I h=>wpAny_Constant_int ⟨.int i,H,I.tok _,⟨_,rfl⟩,h⟩
def Dm {b j pos}:PE X (.Constant (.bool b) j pos) (tC (.bl b)):=λ_ _ _ H _ I h=>Constant_bool ⟨.bl b,H,I,rfl,h⟩
def Bg {j pos}:PE X (.Constant .none j pos) (tC .non):=λ_ _ _ H _ I h=>Constant_none ⟨.non,H,I,rfl,h⟩
def Bh {x j pos}:PE X (.Constant (.str x) j pos) (tC (.str x)):=λ_ _ _ H _ I h=>Calls.Constant_str ⟨.str x,H,I.tok _,⟨_,rfl⟩,h⟩
def Gl (X:Cx)(x:Str):Prop:=X.env.kindOf x=some .globalImplicit
def sj {E:QV}{aa:AO}{s:Shared}{σ:St}{H:Hp}{x:Str}{u:Value}{G:Pos}{Q:QV}(I:Inv X aa σ H s)(M:Gl X x)(hm:X.mg x=some u)(h:Q u s)
  (hd:(x == ("__debug__" : Str))=false:=by decide):wq X (eval (.Name x G) X.env) Q E s :=
 Calls.Name_function_global I.ok.kind M (Calls.loadGlobal_global (by rw[I.ok.glob];exact I.mod.glob.keeps I.bk) hm h) hd
def gg {E:QV}{aa:AO}{s:Shared}{σ:St}{H:Hp}{x:Str}{u:Value}{G:Pos}{Q:QV}(I:Inv X aa σ H s)(M:Gl X x)(hm:X.mg x=none)(O:bootBuiltins x=some u)(h:Q u s)
  (hn:x ≠ "__name__":=by decide) (hd:(x == ("__debug__" : Str))=false:=by decide):wq X (eval (.Name x G) X.env) Q E s:=by
 obtain⟨mb,h1,h2⟩:=I.mod.blt;exact Calls.Name_function_global I.ok.kind M (Calls.loadGlobal_builtin (by rw[I.ok.glob];exact I.mod.glob.keeps I.bk) hm (by rw[I.ok.blt];exact h1.keeps I.bk) ((h2 x hn).trans O) h) hd
def kE (G:Gl X x)(hm:X.mg x=some u)(r:aP v u)(hd:(x == ("__debug__" : Str))=false:=by decide):PE X (.Name x pos) (tC v) :=
 λ_ _ _ H _ I h=>sj I G hm ⟨v,H,I,r,h⟩ hd
def yJ (G:Gl X x)(hm:X.mg x=none)(M:bootBuiltins x=some u)(r:aP v u)(hn:x ≠ "__name__":=by decide)(hd:(x == ("__debug__" : Str))=false:=by decide):PE X (.Name x pos) (tC v) :=
 λ_ _ _ H _ I h=>gg I G hm M ⟨v,H,I,r,h⟩ hn hd
variable {a b:Expr}{ta tb:TE}{pos:Pos}
def kO (b:Expr){G:CmpOp}(h:G≠.In)(h2:G≠.NotIn):behindInMarks G b=false:=by
 have M:(G == CmpOp.In)=false:=by cases G<;>first|rfl|exact absurd rfl h
 have O:(G == CmpOp.NotIn)=false:=by cases G<;>first|rfl|exact absurd rfl h2
 cases b<;>simp[behindInMarks,M,O]
def tB (t:TE):TT:=λσ H Q=>t σ H λx G=>∃c,x=.bl c/\Q c G
def Bi {e:Expr}{t:TE}(h:PE X e t)(he:∀G,isTrue e X.env G=(do let v ←G;standAt e.pos;holding [v] (truthy v)):=by intro _;rfl):PT X e (tB t):=by
 intro aa s σ H Q I M;refine isTrue_plain (bN (h aa s σ H _ I M) λv s1 ⟨x,O,T,U,q1⟩=>?_) (he _);obtain⟨d,rfl,q⟩:=q1;cases U
 exact wpAny_truthy_bool ⟨O,T,q⟩
variable {tA Fs:TT}{ao:QD}
def Dn (t u:TT):TT:=λσ H Q=>t σ H λc G=>if c=true then u σ G Q else Q false G
def Hq (t u:TT):TT:=λσ H Q=>t σ H λc G=>if c=true then Q true G else u σ G Q
def Dp (t:TT):TT:=λσ H Q=>t σ H λc G=>Q (!c) G
def yK (ha:PT X a tA):PW X (.BoolOp .And [a] pos) tA:=by
 intro G aa s σ H Q I h;refine isTrue_and (bN (ha aa s σ H Q I h) λc s1 e=>?_);cases c with
 |true=>exact isTrue_and_nil e
 |false=>exact e
def Bj (ha:PT X a tA):PW X (.BoolOp .Or [a] pos) tA:=by
 intro G aa s σ H Q I h;refine isTrue_or (bN (ha aa s σ H Q I h) λc s1 e=>?_);cases c with
 |false=>exact isTrue_or_nil e
 |true=>exact e
def Bk (ha:PT X a tA)(hb:PW X (.BoolOp .And (b::ao) pos) Fs):PW X (.BoolOp .And (a::b::ao) pos) (Dn tA Fs):=by
 intro T aa s σ H Q I h;refine isTrue_and (bN (ha aa s σ H _ I h) λc s1 ⟨G,M,O⟩=>?_);cases c with
 |true=>exact hb T aa s1 σ G Q M O
 |false=>exact⟨G,M,O⟩
def Dq (ha:PT X a tA)(hb:PW X (.BoolOp .Or (b::ao) pos) Fs):PW X (.BoolOp .Or (a::b::ao) pos) (Hq tA Fs):=by
 intro T aa s σ H Q I h;refine isTrue_or (bN (ha aa s σ H _ I h) λc s1 ⟨G,M,O⟩=>?_);cases c with
 |true=>exact⟨G,M,O⟩
 |false=>exact hb T aa s1 σ G Q M O
def Bl (ha:PT X a tA):PT X (.UnaryOp .Not a pos) (Dp tA):=by
 intro aa s σ H Q I h;exact isTrue_not (ha aa s σ H (λc G=>Q (!c) G) I h)
def Dr (ta tb:TE):TE:=λσ H Q=>ta σ H λx G=>∃c,x=.bl c/\if c=true then tb σ G Q else Q (.bl false) G
def FM (ta tb:TE):TE:=λσ H Q=>ta σ H λx G=>∃c,x=.bl c/\if c=true then Q (.bl true) G else tb σ G Q
def Ds (ta:TE):TE:=λσ H Q=>ta σ H λx G=>∃c,x=.bl c/\Q (.bl (!c)) G
def Bm {op}(h:PE X a t):PE X (.BoolOp op [a] pos) t:=λaa s σ H Q I G=>BoolOp_one (h aa s σ H Q I G)
def Bn (ha:PE X a ta)(hb:PE X (.BoolOp .And (b::ao) pos) tb):PE X (.BoolOp .And (a::b::ao) pos) (Dr ta tb):=by
 intro aa s σ H Q I h;refine BoolOp_and (bN (ha aa s σ H _ I h) λv s1 ⟨x,M,O,T,G⟩=>?_);obtain⟨c,rfl,G⟩:=G;cases T
 refine wpAny_truthy_bool ?_;cases c with
 |true=>exact hb aa s1 σ M Q O G
 |false=>exact⟨.bl false,M,O,rfl,G⟩
def Dt (ha:PE X a ta)(hb:PE X (.BoolOp .Or (b::ao) pos) tb):PE X (.BoolOp .Or (a::b::ao) pos) (FM ta tb):=by
 intro aa s σ H Q I h;refine BoolOp_or (bN (ha aa s σ H _ I h) λv s1 ⟨x,M,O,T,G⟩=>?_);obtain⟨c,rfl,G⟩:=G;cases T
 refine wpAny_truthy_bool ?_;cases c with
 |false=>exact hb aa s1 σ M Q O G
 |true=>exact⟨.bl true,M,O,rfl,G⟩
def Bo (ha:PE X a ta):PE X (.UnaryOp .Not a pos) (Ds ta):=by
 intro aa s σ H Q I h;refine UnaryOp_ (bN (ha aa s σ H _ I h) λv s1 ⟨x,M,O,T,G⟩=>?_);obtain⟨c,rfl,G⟩:=G;cases T
 exact not_of (wpAny_truthy_bool ⟨.bl (!c),M,O,rfl,G⟩)
end
def dZ (K:Frag)(H:Hp)(a:Addr)(xs:List V):Prop :=
 Rd H a (.lst xs) ∨
  ∃(o:Obj)(its:AV)(n:Nat),K.lookup a=some o/\o.cls=.type "list"/\o.dict=none/\o.data=.seq its n/\its.size<=sizeLine/\aO xs its.toList
def fz (K:Frag)(H:Hp)(a:Addr)(xs:List V):Prop :=
 Rd H a (.tup xs) ∨
  ∃(o:Obj)(its:AV)(n:Nat),K.lookup a=some o/\o.cls=.type "tuple"/\o.data=.seq its n/\its.size<=sizeLine/\aO xs its.toList
noncomputable def FN:Value->Option V
 |.none=>some .non
 |.bool b=>some (.bl b)
 |.int i _=>some (.int i)
 |.str x _=>some (.str x)
 |.bytes b _=>some (.byt b)
 |.float b _=>some (.flt b)
 |.ref a=>some (.ref a)
 |.type n=>some (.ty n)
 |_=>none
def aP.abs (r:aP x u):FN u=some x:=by
 cases x with
 |non=>cases r;rfl
 |bl _=>cases r;rfl
 |int _=>obtain⟨t,rfl⟩:=r;rfl
 |str _=>obtain⟨t,rfl⟩:=r;rfl
 |byt _=>obtain⟨t,rfl⟩:=r;rfl
 |flt _=>obtain⟨t,rfl⟩:=r;rfl
 |ref _=>cases r;rfl
 |ty _=>cases r;rfl
def aP.inj (r:aP x u)(q:aP y u):x=y:=vK (r.abs.symm.trans q.abs)
theorem aO.inj:∀ {xs ys:List V}{us:LU},aO xs us->aO ys us->xs=ys
 |_,_,_,.nil,.nil=>rfl
 |_,_,_,.cons r t,.cons G t'=>by rw[r.inj G,aO.inj t t']
section
variable {X:Cx}{aa:AO}{σ:St}{H:Hp}{s:Shared}{a:Addr}{xs ys:List V}
def dZ.of {K:Frag}(h:H a=some (.lst xs)):dZ K H a xs:=.inl (.inl h)
def fz.of {K:Frag}(h:H a=some (.tup xs)):fz K H a xs:=.inl (.inl h)
def Inv.list (I:Inv X aa σ H s)(h:dZ X.K H a xs):∃its:LU,aO xs its/\PlainL s.heap a its.toArray/\xs.length<=sizeLine:=by
 rcases h with h|⟨o,its,n,hk,hc,hd,hs,hz,r⟩
 ·obtain⟨z,its,n,r,e⟩:=h.ok I.hok;exact⟨its,r,⟨_,n,e,rfl,rfl,rfl⟩,z⟩
 ·refine⟨its.toList,r,⟨o,n,I.kIn a o hk,hc,hd,by simpa using hs⟩,?_⟩;have e:=r.length;simp only[vG]at e;omega
def Inv.tuple (I:Inv X aa σ H s)(h:fz X.K H a xs):∃its:LU,aO xs its/\IsTup s.heap a its.toArray/\xs.length<=sizeLine:=by
 rcases h with h|⟨o,its,n,hk,hc,hs,hz,r⟩
 ·obtain⟨z,its,r,p⟩:=h.ok I.hok;exact⟨its,r,p,z⟩
 ·refine⟨its.toList,r,⟨o,I.kIn a o hk,hc,n,by simpa using hs⟩,?_⟩;have e:=r.length;simp only[vG]at e;omega
def Inv.list_inj (I:Inv X aa σ H s)(h:dZ X.K H a xs)(h':dZ X.K H a ys):xs=ys:=by
 obtain⟨its,r,⟨o,n,e,_,_,d⟩,_⟩:=I.list h;obtain⟨its',M,⟨o',O,G,_,_,d'⟩,_⟩:=I.list h';rw[e]at G;cases G;rw[d]at d';injection d' with d1 _;have:its=its':=by simpa using congrArg Array.toList d1
 subst this;exact r.inj M
def Inv.tuple_inj (I:Inv X aa σ H s)(h:fz X.K H a xs)(h':fz X.K H a ys):xs=ys:=by
 obtain⟨its,r,⟨o,e,_,n,d⟩,_⟩:=I.tuple h;obtain⟨its',M,⟨o',G,_,O,d'⟩,_⟩:=I.tuple h';rw[e]at G;cases G;rw[d]at d';injection d' with d1 _;have:its=its':=by simpa using congrArg Array.toList d1
 subst this;exact r.inj M
end
abbrev Cx.wish (X:Cx)(E:QV):Cx:={ X with xe:=E }
abbrev Cx.nox (X:Cx):Cx:=X.wish λ_ _=>False
def Cx.Ok.wish {X:Cx}(ok:X.Ok)(E:QV):(X.wish E).Ok :=
 ⟨ok.mod,ok.kind,ok.glob,ok.blt,ok.above,ok.inj,ok.has,ok.cab,ok.hd,ok.frames,ok.stk,ok.exf,ok.bs,ok.bsz,ok.noex,ok.exfs,ok.funs,ok.frf⟩
def Cx.Ok.unwish {X:Cx}{E:QV}(ok:(X.wish E).Ok):X.Ok :=
 ⟨ok.mod,ok.kind,ok.glob,ok.blt,ok.above,ok.inj,ok.has,ok.cab,ok.hd,ok.frames,ok.stk,ok.exf,ok.bs,ok.bsz,ok.noex,ok.exfs,ok.funs,ok.frf⟩
section
variable {X:Cx}{aa:AO}{σ:St}{H:Hp}{s:Shared}{E:QV}
def Inv.wish (I:Inv X aa σ H s)(E:QV):Inv (X.wish E) aa σ H s:=⟨I.ok.wish E,I.os,I.bare,I.base,I.loc,I.cell,I.free,I.freeC,I.pin,I.hok,I.len⟩
def Inv.unwish (I:Inv (X.wish E) aa σ H s):Inv X aa σ H s:=⟨I.ok.unwish,I.os,I.bare,I.base,I.loc,I.cell,I.free,I.freeC,I.pin,I.hok,I.len⟩
def SP.unwish (h:SP (X.wish E) aa D f s'):SP X aa D f s':=by
 cases f with
 |next=>obtain⟨G,H',I,q⟩:=h;exact⟨G,H',I.unwish,q⟩
 |brk=>obtain⟨G,H',I,q⟩:=h;exact⟨G,H',I.unwish,q⟩
 |cont=>obtain⟨G,H',I,q⟩:=h;exact⟨G,H',I.unwish,q⟩
 |ret u=>obtain⟨v,G,H',I,r,q⟩:=h;exact⟨v,G,H',I.unwish,r,q⟩
def PE.nox (h:PE X.nox e t):PE X e t:=λaa s σ H Q I G=>
 wpAny_mono (h aa s σ H Q (I.wish _) G) (λ_ _ ⟨v,H',M,r,q⟩=>⟨v,H',M.unwish,r,q⟩) λ_ _ z=>False.elim z
def PT.nox (h:PT X.nox e t):PT X e t:=λaa s σ H Q I G=>
 wpAny_mono (h aa s σ H Q (I.wish _) G) (λ_ _ ⟨H',M,q⟩=>⟨H',M.unwish,q⟩) λ_ _ z=>False.elim z
def me.nox {st:List Stmt}{t:TS}(h:me X.nox st t):me X st t:=λaa s σ H D I G=>
 wpAny_mono (h aa s σ H D (I.wish _) G) (λ_ _ q=>q.unwish) λ_ _ z=>False.elim z
end
section
variable {X:Cx}{st:Stmt}{ao:List Stmt}{t u:TS}{e:Expr}{te:TE}{pos:Pos}
def kP:TS:=λD σ H=>D.nx σ H
def qQ (t u:TS):TS:=λD σ H=>t { D with nx:=u D } σ H
def nG:me X [] kP:=λ_ _ σ H _ I h=>wpAny_execs_nil ⟨σ,H,I,h⟩
def gJ (h1:PS X st t)(h2:me X ao u):me X (st::ao) (qQ t u):=by
 intro aa s σ H D I h;refine wpAny_execs_cons (bN (h1 aa s σ H { D with nx:=u D } I h) λf s1 q=>?_);cases f with
 |next=>
  obtain⟨G,H',M,q⟩:=q;exact h2 aa s1 G H' D M q
 |ret v=>exact q
 |brk=>exact q
 |cont=>exact q
def sk (h1:PS X st t):me X [st] t:=by
 intro aa s σ H D I h;refine wpAny_execs_cons (bN (h1 aa s σ H D I h) λf s1 q=>?_);cases f with
 |next=>exact wpAny_execs_nil q
 |ret v=>exact q
 |brk=>exact q
 |cont=>exact q
def Du:TS:=λD σ H=>D.ct σ H
def pd:PS X (.Continue pos) Du:=λ_ _ σ H _ I h=>wpAny_Continue ⟨σ,H,I,h⟩
def Inv.quiet (I:Inv X aa σ H s):interactive X.env=false:=by simp[interactive,I.ok.kind]
def A0 (te:TE):TS:=λD σ H=>te σ H λ_ G=>D.nx σ G
def nH (he:PE X e te)(hs:swapsWith e none pos.line X.env=pure false:=by rfl):PS X (.Expr e pos) (A0 te):=by
 intro aa s σ H D I h;exact wpAny_Expr_any (bN (he aa s σ H _ I h) λv s1 ⟨x,G,M,T,O⟩=>⟨σ,G,M,O⟩) I.quiet hs
def Bp (te:TE):TS:=λD σ H=>te σ H D.rt
def wd (he:PE X e te):PS X (.Return (some e) pos) (Bp te):=by
 intro aa s σ H D I h;exact wpAny_Return_some (bN (he aa s σ H _ I h) λv s1 ⟨x,G,M,O,T⟩=>⟨x,σ,G,M,O,T⟩)
def qR (c:TT)(t u:TS):TS:=λD σ H=>c σ H λb G=>if b=true then t D σ G else u D σ G
def we {c:Expr}{a b:List Stmt}{G:TT}(hc:PT X c G)(ha:me X a t)(hb:me X b u):PS X (.If c a b pos) (qR G t u):=by
 intro aa s σ H D I h;refine wpAny_If (bN (hc aa s σ H _ I h) λd s1 ⟨M,O,T⟩=>?_);cases d with
 |true=>exact ha aa s1 σ M D O T
 |false=>exact hb aa s1 σ M D O T
end
abbrev TG:=V->St->Hp->(St->Hp->Prop)->Prop
abbrev Bq:=List V->St->Hp->(St->Hp->Prop)->Prop
def PG (X:Cx)(G:Expr)(t:TG):Prop :=
 ∀(aa:AO)(s:Shared)(σ:St)(H:Hp)(v:V)(u:Value)(Q:St->Hp->Prop),Inv X aa σ H s->aP v u->t v σ H Q ->
  wq X (assign G X.env u) (λ_ O=>∃M H',Inv X aa M H' O/\Q M H') X.xe s
def Fe (X:Cx)(M:QD)(t:Bq):Prop :=
 ∀(aa:AO)(s:Shared)(σ:St)(H:Hp)(vs:List V)(us:LU)(Q:St->Hp->Prop),Inv X aa σ H s->aO vs us->t vs σ H Q ->
  wq X (assignInOrder ((assignEach M X.env).map (·.2)) us) (λ_ O=>∃G H',Inv X aa G H' O/\Q G H') X.xe s
abbrev Br:=V->V->V->Hp->(Hp->Prop)->Prop
def Dv (X:Cx)(t:Br):Prop :=
 ∀(aa:AO)(s:Shared)(σ:St)(H:Hp)(o i v:V)(G iv u:Value)(Q:Hp->Prop),Inv X aa σ H s->aP o G->aP i iv->aP v u->t o i v H Q ->
  wq X (setItem G iv u) (λ_ M=>∃H',Inv X aa σ H' M/\Q H') X.xe s
section
variable {X:Cx}{pos:Pos}
def g9 (i:Nat):TG:=λv σ H Q=>Q (σ.set i (some v)) H
def sn (G:X.N.Nodup)(hi:X.N[i]? = some x)(hx:yI X.env.scope x)(hf:X.fn x=true∨X.env.scope.names.lookup x=some .local:=by first|exact .inl rfl|exact .inr rfl|assumption):PG X (.Name x pos) (g9 i):=by
 intro aa s σ H v u Q I r h;exact wpAny_assign_Name (pc I G hi hx r (λO M=>⟨_,H,M,h⟩) hf)
def Dw:Bq:=λvs σ H Q=>vs=[]/\Q σ H
def A1 (t:TG)(u:Bq):Bq:=λvs σ H Q=>∃v r,vs=v::r/\t v σ H λG H'=>u r G H' Q
def kF:Fe X [] Dw:=by
 intro aa s σ H vs us Q I r h;obtain⟨e,h⟩:=h;subst e;cases r
 exact assignInOrder_nil ⟨σ,H,I,h⟩
def dG {e:Expr}{es:QD}{t:TG}{u:Bq}(h1:PG X e t)(h2:Fe X es u)
  (hs:(assignEach (e::es) X.env).map (·.2)=assign e X.env::(assignEach es X.env).map (·.2):=by rfl):Fe X (e::es) (A1 t u):=by
 intro aa s σ H vs us Q I r h;obtain⟨v,vr,M,h⟩:=h;subst M;cases r with
 |cons r O=>
  rw[hs];refine assignInOrder_cons (bN (h1 aa s σ H _ _ _ I r h) λ_ s1 ⟨G,T,U,q1⟩=>?_);exact h2 aa s1 G T _ _ Q U O q1
def Bs (K:Frag)(n:Nat)(t:Bq):TG:=λv σ H Q=>∃a xs,v=.ref a/\fz K H a xs/\xs.length=n/\t xs σ H Q
def nJ (hc:X.calm=true)(h:Fe X es t)
  (hn:(assignEach es X.env).length=n:=by rfl) (G:(assignEach es X.env).findIdx? (·.1)=none:=by rfl):PG X (.Tuple es k pos) (Bs X.K n t):=by
 intro aa s σ H v u Q I r M;obtain⟨a,xs,T,hq,hl,M⟩:=M;subst T;cases r
 obtain⟨its,O,U,hz⟩:=I.tuple hq;refine assign_Tuple_tuple (I.ok.hd hc) U (by simp[hn,←hl,O.length]) G λh' hx=>?_;have I1:Inv X aa σ H { s with heap:=h' }:=I.kept (t':=s.toks) λb o e=>hx b o (vS (vX e)) e;exact h aa _ σ H xs _ Q I1 (by simpa using O) M
def FP (to ti:TE)(t:Br):TG:=λv σ H Q=>to σ H λo G=>ti σ G λi H2=>t o i v H2 λM=>Q σ M
def Bt {o i:Expr}{to ti:TE}{t:Br}(M:PE X o to)(hi:PE X i ti)(hs:Dv X t)
  (ha:∀v,assign (.Subscript o i pos) X.env v=(do
   let G ←holding [v] (eval o X.env)
   let iv ←holding [v,G] (eval i X.env)
   standAt pos
   holding [v,G,iv] (setItem G iv v)
   release [v,G,iv] []):=by intro _;rfl):PG X (.Subscript o i pos) (FP to ti t):=by
 intro aa s σ H v u Q I r h;rw[ha];refine wX (wpAny_holding (bN (M aa s σ H _ I h) λG s1 ⟨x,O,T,U,q1⟩=>?_));refine wX (wpAny_holding (bN (hi aa s1 σ O _ T q1) λiv s2 ⟨y,H2,I2,r2,q2⟩=>?_));refine wX (wpAny_standAt (wX (wpAny_holding (bN (hs aa s2 σ H2 x y v G iv u _ I2 U r2 r q2) λ_ s3 ⟨H3,I3,q3⟩=>?_))));exact wpAny_release ⟨σ,H3,I3,q3⟩
def qS (G:TE)(g:TG):TS:=λD σ H=>G σ H λx M=>g x σ M D.nx
def Bu {tg e:Expr}{G:TE}{g:TG}(he:PE X e G)(M:PG X tg g)(hs:swapsWithSole [tg] e pos.line X.env=pure false:=by rfl)(O:swappedStores [tg] e X.env=pure none:=by rfl)
  (h1:(assignEach [tg] X.env).map (·.2)=[assign tg X.env]:=by rfl):PS X (.Assign [tg] e pos) (qS G g):=by
 intro aa s σ H D I h;refine wpAny_Assign_stores (bN (he aa s σ H _ I h) λv s1 ⟨x,T,U,r1,q1⟩=>?_) hs O;rw[h1];exact bN (M aa s1 σ T x v _ U r1 q1) λ_ s2 q=>q
def qT {i:Nat}{x:Str}{e:Expr}{M:TE}{G:Pos}(O:X.N.Nodup)(hi:X.N[i]? = some x)(hx:yI X.env.scope x)(he:PE X e M)(hs:swapsWith e (some (.Name x G)) pos.line X.env=pure false:=by rfl)(hf:X.fn x=true∨X.env.scope.names.lookup x=some .local:=by first|exact .inl rfl|exact .inr rfl|assumption):
  PS X (.Assign [.Name x G] e pos) (qS M (g9 i)):=by
 intro aa s σ H D I h;refine wpAny_Assign_Name (bN (he aa s σ H _ I h) λv s1 ⟨y,T,U,r1,q1⟩=>?_) hs;exact pc U O hi hx r1 (λs2 I2=>⟨_,T,I2,q1⟩) hf
end
section
variable {X:Cx}{pos:Pos}
def wg (c:TT)(tb:TS):TS:=λD σ H=>∃W:Nat->St->Hp->Prop,(∃m,W m σ H)/\∀m σ H,W m σ H ->
 c σ H λb M=>if b=true then ∃N:St->Hp->Prop,(∀G H',N G H'->∃O,O<m/\W O G H')/\tb { D with nx:=N,ct:=N,bk:=D.nx } σ M else D.nx σ M
def wh {c:Expr}{O:List Stmt}{tc:TT}{tb:TS}(hp:PassesOwn (model X.prog X.w) X.A X.env X.xe)(hc:PT X c tc)(hb:me X O tb):PS X (.While c O [] pos) (wg tc tb):=by
 intro aa s σ H D I h;obtain⟨W,⟨m0,w0⟩,T⟩:=h;refine wpAny_While (codeAny_whileLoop (λn s'=>∃U H',Inv X aa U H' s'/\W n U H') ?_ m0 ⟨σ,H,I,w0⟩);rintro n s1 ⟨M,H1,I1,w1⟩;refine wpAny_passesOwn hp (bN (hc aa s1 M H1 _ I1 (T n M H1 w1)) λb s2 ⟨H2,I2,q2⟩=>?_);cases b with
 |true=>
  obtain⟨N,hN,q2⟩:=q2;rw[if_pos rfl];refine wpAny_passesOwn hp (bN (hb aa s2 M H2 _ I2 q2) λf s3 q3=>?_);cases f with
  |next=>
   obtain⟨G,H3,I3,n3⟩:=q3;obtain⟨m',hm,w3⟩:=hN G H3 n3;exact⟨m',hm,G,H3,I3,w3⟩
  |cont=>
   obtain⟨G,H3,I3,n3⟩:=q3;obtain⟨m',hm,w3⟩:=hN G H3 n3;exact⟨m',hm,G,H3,I3,w3⟩
  |brk=>exact q3
  |ret v=>exact q3
 |false=>
  rw[if_neg uY];exact wpAny_execs_nil ⟨M,H2,I2,q2⟩
end
structure It where
 go:Nat->Hp->Prop
 yld:Nat->Hp->V->Hp->Prop
 stop:Nat->Hp->Prop
def iJ (X:Cx)(aa:AO)(H:Hp)(b:Addr):Prop :=
 H b=none/\b≠X.env.locals/\b∉X.fs/\(b∈X.ex∨X.s₀.heap.objs.size<=b)/\(∀x c,X.env.cells.lookup x=some c->c≠b)/\∀p∈X.pn++aa,p.1≠b
def Inv.fpOk (I:Inv X aa σ H s)(hb:s.heap.objs.size<=b)(hn:H' b=none):iJ X aa H' b:=by
 refine⟨hn,ne_of_gt (vQ I.lt hb),I.nofs hb,.inr (vR I.sz hb),λx c e z=>?_,λp G z=>?_⟩
 ·obtain⟨v,q⟩:=I.cell x c e;exact absurd (vQ q.lt (by rw[z];exact hb)) (Nat.lt_irrefl _)
 ·exact absurd (vQ (vX (I.pin p G).1) (by rw[z];exact hb)) (Nat.lt_irrefl _)
structure Turn (P:Program)(w:World)(K:Frag)(tg:Expr)(J:It)(fp:List Addr)(it:Addr)(tn:Nat->Heap->Prop):Prop where
 mem:it∈fp
 obj:∀i h,tn i h->∀b∈fp,∃o,h.get? b=some o/\∀v,o.data≠.cell v
 keep:∀i h h',tn i h->(∀b∈fp,∀o,h.get? b=some o->h'.get? b=some o)->tn i h'
 item:∀(X:Cx),X.prog=P->X.w=w->X.K=K->X.calm=true->∀(i:Nat)(aa:List (Addr×Obj))(s:Shared)(σ:St)(H:Hp)(E:Value->Shared->Prop),Inv X aa σ H s->(∀b∈fp,iJ X aa H b)->tn i s.heap->J.go i H ->
  wpAny (model P w) X.A (pyNext (.ref it)) (λr s1=>∃u,r=some u /\
   wpAny (model P w) X.A (letOwnedTupleGo tg (.ref it) u) (λ_ s2=>∃x H',Inv X aa σ H' s2/\aP x u/\J.yld i H x H'/\tn (i+1) s2.heap/\∀b∈fp,H' b=none) E s1) E s
 done:∀(X:Cx),X.prog=P->X.w=w->X.K=K->X.calm=true->∀(i:Nat)(aa:List (Addr×Obj))(s:Shared)(σ:St)(H:Hp)(E:Value->Shared->Prop),Inv X aa σ H s->(∀b∈fp,iJ X aa H b)->tn i s.heap->J.stop i H ->
  wpAny (model P w) X.A (pyNext (.ref it)) (λr s1=>r=none/\Inv X aa σ H s1) E s
 self:∀(A:Around)(i:Nat)(s:Shared)(Q:Value->Shared->Prop)(E:Value->Shared->Prop),tn i s.heap->Q (.ref it) s->wpAny (model P w) A (pyIter (.ref it)) Q E s
abbrev TI:=St->Hp->(It->Hp->Prop)->Prop
def FQ (X:Cx)(aa:AO)(σ:St)(tg:Expr)(R:It->Hp->Prop)(G:Value)(s2:Shared):Prop :=
 ∃(it:Addr)(fp:List Addr)(tn:Nat->Heap->Prop)(J:It)(H':Hp),G=.ref it/\Inv X aa σ H' s2/\Turn X.prog X.w X.K tg J fp it tn/\tn 0 s2.heap/\(∀b∈fp,iJ X aa H' b)/\R J H'
def PI (X:Cx)(tg G:Expr)(M:TI):Prop :=
 ∀(aa:AO)(s:Shared)(σ:St)(H:Hp)(R:It->Hp->Prop),Inv X aa σ H s->M σ H R ->
  wq X (eval G X.env) (λv s1=>wq X (pyIter v) (FQ X aa σ tg R) X.xe s1) X.xe s
def kQ (O:s.heap.get? it=some o)(hc:o.cls=.type n)(hd:o.data=.fields vs)
    (hn:["enumerate","zip","dict_itemiterator","dict_reverseitemiterator","odict_iterator","itertools.zip_longest","itertools.pairwise"].contains n=false) (G:Q () s):wpAny M A (letOwnedTupleGo tg (.ref it) u) Q E s:=by
  unfold letOwnedTupleGo;cases tg<;>first
    |exact wY G
    | (cases u<;>first
        |exact wY G
        | (refine wX (wpAny_load O ?_)
           rw[hc,hd]
           show wpAny M A (if(["enumerate","zip","dict_itemiterator","dict_reverseitemiterator","odict_iterator","itertools.zip_longest","itertools.pairwise"].contains n && vs[0]? == some (rawInt _))=true then _ else _) Q E s
           rw[if_neg (by intro h;rw[hn,Bool.false_and]at h;cases h)]
           exact wY G))
noncomputable def Hr (K:Frag)(a:Addr):It :=
 ⟨λi H=>∃xs x,dZ K H a xs/\xs[i]? = some x,λi H x H'=>H'=H/\∀xs,dZ K H a xs->xs[i]? = some x,λi H=>∃xs,dZ K H a xs/\xs.length<=i⟩
noncomputable def Hs (K:Frag)(a:Addr):It :=
 ⟨λi H=>∃xs x,fz K H a xs/\xs[i]? = some x,λi H x H'=>H'=H/\∀xs,fz K H a xs->xs[i]? = some x,λi H=>∃xs,fz K H a xs/\xs.length<=i⟩
noncomputable def Ff (lo:Int)(n:Nat):It:=⟨λi _=>i<n,λi H x H'=>H'=H/\x=.int (lo+i),λi _=>n<=i⟩
def ue {P:Program}{w:World}{K:Frag}{tg:Expr}(a it:Addr):Turn P w K tg (Hr K a) [it] it (λi h=>h.IsListIter it a i) where
 mem:=by simp
 obj:=λi h st b hb=>by
  have e:b=it:=by simpa using hb
  subst e;obtain⟨o,e,c,d⟩:=st;exact⟨o,e,λv z=>by rw[d]at z;cases z⟩
 keep:=λi h h' st k=>st.at λo e=>k it (by simp) o e
 item:=by
  intro X M O T hc i aa s σ H E I hf st U;subst M O T;obtain⟨xs,x,hq,hx⟩:=U;obtain⟨its,rv,p,hz⟩:=I.list hq;obtain⟨u,hu,ru⟩:=rv.get hx;obtain⟨f0,f1,f2,f3,f4,f5⟩:=hf it (by simp);refine wpAny_pyNext_list_item st p.isList (x:=u) (by simpa using hu) λh' G sb=>?_;have I1:Inv X aa σ H { s with heap:=h' }:=I.turned (t':=s.toks) (λb o hb e=>(sb.2 b hb).trans e) f0 f1 f3 f4 f5;obtain⟨o,e,c,d⟩:=id G;exact⟨u,rfl,kQ (s:={ s with heap:=h' }) e c d (by decide) ⟨x,H,I1,ru,⟨rfl,λys hy=>by rw[I.list_inj hy hq];exact hx⟩,G,λb hb=>(hf b hb).1⟩⟩
 done:=by
  intro X M O T hc i aa s σ H E I hf st U;subst M O T;obtain⟨xs,hq,hx⟩:=U;obtain⟨its,rv,p,hz⟩:=I.list hq;obtain⟨f0,f1,f2,f3,f4,f5⟩:=hf it (by simp);have hl:=rv.length;exact wpAny_pyNext_list_end (I.ok.hd hc) st p.isList (by simp;omega) λh' eb=>⟨rfl,I.turned (t':=s.toks) (λb o hb e=>eb b o hb e) f0 f1 f3 f4 f5⟩
 self:=λ_ _ _ _ _ st h=>wpAny_pyIter_listiter st h
def qU {P:Program}{w:World}{K:Frag}{tg:Expr}(a it:Addr):Turn P w K tg (Hs K a) [it] it (λi h=>h.IsTupleIter it a i) where
 mem:=by simp
 obj:=λi h st b hb=>by
  have e:b=it:=by simpa using hb
  subst e;obtain⟨o,e,c,d⟩:=st;exact⟨o,e,λv z=>by rw[d]at z;cases z⟩
 keep:=λi h h' st k=>st.at λo e=>k it (by simp) o e
 item:=by
  intro X M O T hc i aa s σ H E I hf st U;subst M O T;obtain⟨xs,x,hq,hx⟩:=U;obtain⟨its,rv,p,hz⟩:=I.tuple hq;obtain⟨u,hu,ru⟩:=rv.get hx;obtain⟨f0,f1,f2,f3,f4,f5⟩:=hf it (by simp);refine wpAny_pyNext_tuple_item st (show s.heap.IsTuple a its.toArray from p) (x:=u) (by simpa using hu) λh' G sb=>?_;have I1:Inv X aa σ H { s with heap:=h' }:=I.turned (t':=s.toks) (λb o hb e=>(sb.2 b hb).trans e) f0 f1 f3 f4 f5;obtain⟨o,e,c,d⟩:=id G;exact⟨u,rfl,kQ (s:={ s with heap:=h' }) e c d (by decide) ⟨x,H,I1,ru,⟨rfl,λys hy=>by rw[I.tuple_inj hy hq];exact hx⟩,G,λb hb=>(hf b hb).1⟩⟩
 done:=by
  intro X M O T hc i aa s σ H E I hf st U;subst M O T;obtain⟨xs,hq,hx⟩:=U;obtain⟨its,rv,p,hz⟩:=I.tuple hq;obtain⟨f0,f1,f2,f3,f4,f5⟩:=hf it (by simp);have hl:=rv.length;exact wpAny_pyNext_tuple_end (I.ok.hd hc) st (show s.heap.IsTuple a its.toArray from p) (by simp;omega) λh' eb=>⟨rfl,I.turned (t':=s.toks) (λb o hb e=>eb b o hb e) f0 f1 f3 f4 f5⟩
 self:=λ_ _ _ _ _ st h=>wpAny_pyIter_tupleiter st h
def qV {P:Program}{w:World}{K:Frag}{tg:Expr}(it:Addr)(lo:Int)(n:Nat):Turn P w K tg (Ff lo n) [it] it (λi h=>IsRangeIter h it (lo+(i:Nat)*1) ((n:Int) - (i:Nat)) 1) where
 mem:=by simp
 obj:=λi h st b hb=>by
  have e:b=it:=by simpa using hb
  subst e;exact⟨_,st,λv z=>by
   have z':Data.fields _=Data.cell v:=z;cases z'⟩
 keep:=λi h h' st k=>k it (by simp) _ st
 item:=by
  intro X M O T hc i aa s σ H E I hf st U;subst M O T;obtain⟨f0,f1,f2,f3,f4,f5⟩:=hf it (by simp);have W:=Walks.range (prog:=X.prog) (w:=X.w) (I.ok.hd hc) it lo 1 n;refine W.item i s _ _ U st λv h' tk hv G kk=>?_;obtain⟨t,rfl⟩:=hv;have I1:Inv X aa σ H { s with heap:=h',toks:=tk }:=I.turned (λb o hb e=>kk b o (by simpa using hb) e) f0 f1 f3 f4 f5;refine⟨_,rfl,kQ (s:={ s with heap:=h',toks:=tk }) (n:="range_iterator") G rfl rfl (by decide) ⟨.int (lo+i),H,I1,⟨t,?_⟩,⟨rfl,rfl⟩,G,λb hb=>(hf b hb).1⟩⟩;rw[Int.mul_one]
 done:=by
  intro X M O T hc i aa s σ H E I hf st U;subst M O T;obtain⟨f0,f1,f2,f3,f4,f5⟩:=hf it (by simp);exact wpAny_pyNext_range_end (I.ok.hd hc) st (by have:n<=i:=U;omega) λh' eb=>⟨rfl,I.turned (t':=s.toks) (λb o hb e=>eb b o hb e) f0 f1 f3 f4 f5⟩
 self:=λ_ _ _ _ _ st h=>wpAny_pyIter_rangeiter st h
section
variable {X:Cx}{tg:Expr}
def Dx (K:Frag)(tl:TE):TI:=λσ H R=>tl σ H λx G=>∃a,x=.ref a/\(∃xs,dZ K G a xs)/\R (Hr K a) G
def FR (K:Frag)(tl:TE):TI:=λσ H R=>tl σ H λx G=>∃a,x=.ref a/\(∃xs,fz K G a xs)/\R (Hs K a) G
def yL {l:Expr}{tl:TE}(hl:PE X l tl):PI X tg l (Dx X.K tl):=by
 intro aa s σ H R I h;refine bN (hl aa s σ H _ I h) λv s1 ⟨x,M,G,O,T⟩=>?_;obtain⟨a,e,⟨xs,hq⟩,q⟩:=T;subst e;cases O
 obtain⟨its,U,p,hz⟩:=G.list hq;refine wpAny_pyIter_list p.isList ?_;refine⟨s1.heap.objs.size,[s1.heap.objs.size],_,_,M,rfl,G.kept (t':=s1.toks) λb o e=>vZ _ e,ue a _,⟨_,vY _ rfl,rfl,rfl⟩,λb hb=>?_,q⟩;have e:b=s1.heap.objs.size:=by simpa using hb
 subst e;exact G.fpOk (vT _) (G.hok.fresh (vT _))
def Bv {l:Expr}{tl:TE}(hl:PE X l tl):PI X tg l (FR X.K tl):=by
 intro aa s σ H R I h;refine bN (hl aa s σ H _ I h) λv s1 ⟨x,M,G,O,T⟩=>?_;obtain⟨a,e,⟨xs,hq⟩,q⟩:=T;subst e;cases O
 obtain⟨its,U,p,hz⟩:=G.tuple hq;refine wpAny_pyIter_tuple (show s1.heap.IsTuple a its.toArray from p) ?_;refine⟨s1.heap.objs.size,[s1.heap.objs.size],_,_,M,rfl,G.kept (t':=s1.toks) λb o e=>vZ _ e,qU a _,⟨_,vY _ rfl,rfl,rfl⟩,λb hb=>?_,q⟩;have e:b=s1.heap.objs.size:=by simpa using hb
 subst e;exact G.fpOk (vT _) (G.hok.fresh (vT _))
def wj {aa:AO}{σ:St}{H:Hp}{s:Shared}{R:It->Hp->Prop}{E:QV}{lo hi:Int}{t u v:Tok}{G:Nat}(I:Inv X aa σ H s)(h1 : -(2 ^ 62)<=lo)(h2:lo<2 ^ 62)(h3 : -(2 ^ 62)<=hi)(h4:hi<2 ^ 62)
  (q:R (Ff lo (hi - lo).toNat) H):wq X (pyIter (.ref s.heap.objs.size)) (FQ X aa σ tg R) E { s with heap:=s.heap.push { cls:=.type "range",data:=.fields #[.int lo t,.int hi u,.int 1 v] },toks:=G }:=by
 refine wpAny_pyIter_range (IsRange.new ..) (small_one h1 h2 h3 h4) ?_;have M:Inv X aa σ H { s with heap:=s.heap.push { cls:=.type "range",data:=.fields #[.int lo t,.int hi u,.int 1 v] },toks:=G }:=I.kept λb o e=>vZ _ e;refine⟨(s.heap.push { cls:=.type "range",data:=.fields #[.int lo t,.int hi u,.int 1 v] }).objs.size,[(s.heap.push { cls:=.type "range",data:=.fields #[.int lo t,.int hi u,.int 1 v] }).objs.size],_,_,H,rfl,
  M.kept (t':=G) λb o e=>vZ _ e,qV _ lo (hi - lo).toNat,?_,λb hb=>?_,q⟩
 ·have O:lo+((0:Nat):Int)*1=lo:=by simp
  have T:(((hi - lo).toNat:Nat):Int) - ((0:Nat):Int)=Builtin.Range.rangeSize lo hi 1:=by rw[rangeSize_one];split<;>omega
  show IsRangeIter _ _ (lo+((0:Nat):Int)*1) ((((hi - lo).toNat:Nat):Int) - ((0:Nat):Int)) 1;rw[O,T];exact vY _ rfl
 ·have e:b=(s.heap.push { cls:=.type "range",data:=.fields #[.int lo t,.int hi u,.int 1 v] }).objs.size:=by simpa using hb
  subst e;exact M.fpOk (vT _) (M.hok.fresh (vT _))
def Dy (ta:TA):TI:=λσ H R=>ta σ H λvs G=>∃j:Int,vs=[.int j]/\-(2 ^ 62)<=j/\j<2 ^ 62/\R (Ff 0 j.toNat) G
def uf {a:Expr}{ta:TA}{p G:Pos}(O:Gl X "range")(hm:X.mg "range" = none)(ha:PA X [a] ta)(hs:starEach [a] X.env=[(false,eval a X.env)]:=by rfl):PI X tg (.Call (.Name "range" p) [a] [] G) (Dy ta):=by
 intro aa s σ H R I h;refine Call_ (gg I O hm boot_range (PyProof.Rows.callWith_type1 (bN (ha G aa s σ H _ I h) λus s1 ⟨vs,H1,T,U,M⟩=>?_) hs rfl));obtain⟨j,e,M,q2,q⟩:=M;subst e;cases U with
 |cons r rr=>
  cases rr
  obtain⟨t,rfl⟩:=r;exact call_range_1 (wj T (by omega) (by omega) M q2 (by simpa using q))
def Bw (T:TI)(g:TG)(tb:TS):TS:=λD σ H=>T σ H λJ U=>∃W:Nat->Nat->St->Hp->Prop,(∃m,W 0 m σ U)/\∀i m σ H,W i m σ H ->
 (J.stop i H/\D.nx σ H)∨(J.go i H/\∃N:St->Hp->Prop,(∀G H',N G H'->∃O,O<m/\W (i+1) O G H')/\∀x H',J.yld i H x H'->g x σ H' λM H2=>tb { D with nx:=N,ct:=N,bk:=D.nx } M H2)
def j0 (fp:List Addr)(h:Heap):AO:=fp.filterMap λb=>(h.get? b).map λo=>(b,o)
def gh {fp:List Addr}{h:Heap}{b:Addr}{o:Obj}(hb:b∈fp)(e:h.get? b=some o):(b,o)∈j0 fp h:=mem_filterMap.mpr ⟨b,hb,by rw[e];rfl⟩
def ug (G:p∈j0 fp h):p.1∈fp/\h.get? p.1=some p.2:=by
 obtain⟨b,hb,e⟩:=mem_filterMap.mp G;cases q:h.get? b with
 |none=>rw[q]at e;cases e
 |some o=>
  rw[q]at e;have M:(b,o)=p:=vK e;subst M;exact⟨hb,q⟩
def Inv.pinned (I:Inv X aa σ H s)(hf:∀b∈fp,iJ X aa H b)(M:∀b∈fp,∃o,s.heap.get? b=some o/\∀v,o.data≠.cell v):Inv X (aa++j0 fp s.heap) σ H s :=
 I.pins_of λp O=>(mem_append.mp O).elim (λz=>I.pin p (mY _ z)) λz=>by
  obtain⟨hb,e⟩:=ug z;obtain⟨f0,f1,f2,_⟩:=hf p.1 hb;obtain⟨o,G,d⟩:=M p.1 hb;rw[e]at G;cases G;exact⟨e,f0,f1,f2,d⟩
def Inv.unpinned (I:Inv X (aa++pl) σ H s):Inv X aa σ H s:=I.pins_of λp G=>I.pin p (mY _ (List.mem_append_left _ G))
def wk {M:Expr}{body:List Stmt}{wi:TI}{g:TG}{tb:TS}{pos:Pos}(hp:PassesOwn (model X.prog X.w) X.A X.env X.xe)(hc:X.calm=true)(hi:PI X tg M wi)(hg:PG X tg g)(hb:me X body tb)
  (hs:∀x,foldedSetIterable M X.env x=pure x:=by intro _;rfl):PS X (.For tg M body [] pos) (Bw wi g tb):=by
 intro aa s σ H D I h;refine wpAny_For (bN (hi aa s σ H _ I h) λv s1 h1=>bN h1 λHQ s2 h2=>?_) hs;obtain⟨it,fp,tn,J,H2,e,I2,T,Au,f2,W,⟨m0,w0⟩,GD⟩:=h2;subst e
 -- what stays true of the iterator's objects through the vx
 have O:∀ {H':Hp},(∀b∈fp,H' b=none)->∀b∈fp,iJ X aa H' b:=λhn b hb=>⟨hn b hb,(f2 b hb).2⟩;refine codeAny_forLoop_any (λn s'=>∃i U H',Inv X aa U H' s'/\tn i s'.heap/\(∀b∈fp,H' b=none)/\W i n U H') ?_ m0 ⟨0,σ,H2,I2,Au,λb hb=>(f2 b hb).1,w0⟩;rintro n s3 ⟨i,σ3,H3,I3,E9,HR,w3⟩;rcases GD i n σ3 H3 w3 with⟨stop,qn⟩|⟨go,N,hN,step⟩
 ·refine wpAny_passesOwn hp (bN (T.done X rfl rfl rfl hc i aa s3 σ3 H3 X.xe I3 (O HR) E9 stop) λr s4 ⟨hr,I4⟩=>?_);subst hr;exact wpAny_execs_nil ⟨σ3,H3,I4,qn⟩
 ·refine wpAny_passesOwn hp (bN (T.item X rfl rfl rfl hc i aa s3 σ3 H3 X.xe I3 (O HR) E9 go) λr s4 ⟨u,hr,h4⟩=>?_);subst hr;refine wpAny_passesOwn hp (bN h4 λ_ s5 ⟨x,H5,I5,r5,y5,GF,GG⟩=>?_);have Jw:=I5.pinned (O GG) (T.obj _ _ GF);refine wpAny_passesOwn hp (bN (hg _ s5 σ3 H5 x u _ Jw r5 (step x H5 y5)) λ_ s6 ⟨σ6,H6,I6,q6⟩=>?_);refine wpAny_passesOwn hp (bN (hb _ s6 σ6 H6 _ I6 q6) λf s7 q7=>?_);have again:∀ {G:St}{H7:Hp},Inv X (aa++j0 fp s5.heap) G H7 s7->N G H7->∃m,m<n/\∃i U H',Inv X aa U H' s7/\tn i s7.heap/\(∀b∈fp,H' b=none)/\W i m U H':=λ{G H7} I7 n7=>by
   obtain⟨m',hm,w7⟩:=hN G H7 n7;refine⟨m',hm,i+1,G,H7,I7.unpinned,T.keep _ _ _ GF λb hb o e=>(I7.pin (b,o) (mY _ (mY _ (gh hb e)))).1,λb hb=>?_,w7⟩;obtain⟨o,e,d⟩:=T.obj _ _ GF b hb;exact(I7.pin (b,o) (mY _ (mY _ (gh hb e)))).2.1
  cases f with
  |next=>obtain⟨G,H7,I7,n7⟩:=q7;exact again I7 n7
  |cont=>obtain⟨G,H7,I7,n7⟩:=q7;exact again I7 n7
  |brk=>obtain⟨G,H7,I7,q7⟩:=q7;exact⟨G,H7,I7.unpinned,q7⟩
  |ret v=>obtain⟨x7,G,H7,I7,r7,q7⟩:=q7;exact⟨x7,G,H7,I7.unpinned,r7,q7⟩
end
abbrev R2:=V->V->Hp->VK->Prop
def ci (X:Cx)(f:Value->Value->Sem Value)(r:R2):Prop :=
 ∀(aa:AO)(s:Shared)(σ:St)(H:Hp)(x y:V)(v u:Value)(Q:VK),Inv X aa σ H s->aP x v->aP y u->r x y H Q ->
  wq X (f v u) (EP X aa σ Q) X.xe s
def Dz (X:Cx)(f:Value->Sem Value)(r:V->Hp->VK->Prop):Prop :=
 ∀(aa:AO)(s:Shared)(σ:St)(H:Hp)(x:V)(v:Value)(Q:VK),Inv X aa σ H s->aP x v->r x H Q ->
  wq X (f v) (EP X aa σ Q) X.xe s
def bp (X:Cx)(f:Value)(r:List V->Hp->VK->Prop):Prop :=
 ∀(aa:AO)(s:Shared)(σ:St)(H:Hp)(xs:List V)(us:LU)(Q:VK),Inv X aa σ H s->aO xs us->r xs H Q ->
  wq X (call f us) (EP X aa σ Q) X.xe s
def D0 (r:R2)(ta tb:TE):TE:=λσ H Q=>ta σ H λx G=>tb σ G λy H2=>r x y H2 Q
def IP (r:V->Hp->VK->Prop)(ta:TE):TE:=λσ H Q=>ta σ H λx G=>r x G Q
def rI (C:Int->Int->Prop)(g:Int->Int->V):R2:=λx y H Q=>∃i j,x=.int i/\y=.int j/\C i j/\Q (g i j) H
def yM (g:Int->Int->V):R2:=λx y H Q=>∃i j,x=.int i/\y=.int j/\Q (g i j) H
def rU (g:Int->V):V->Hp->VK->Prop:=λx H Q=>∃i,x=.int i/\Q (g i) H
section
variable {X:Cx}{a b c:Expr}{ta tb tc:TE}{pos:Pos}
def By (ha:PE X a ta)(hb:PE X b tb){aa:AO}{s:Shared}{σ:St}{H:Hp}{R:V->V->Hp->Prop}(I:Inv X aa σ H s)
  (h:ta σ H λx O=>tb σ O λy H2=>R x y H2) {Q:QV}{f:Value->Value->Sem Value}
  (hf:∀v u s2 x y H2,Inv X aa σ H2 s2->aP x v->aP y u->R x y H2->wq X (f v u) Q X.xe s2):
  wq X (eval a X.env) (λv G=>wq X (eval b X.env) (λu M=>wq X (f v u) Q X.xe M) X.xe G) X.xe s:=by
 refine bN (ha aa s σ H _ I h) λv s1 ⟨x,O,T,U,q1⟩=>?_;refine bN (hb aa s1 σ O _ T q1) λu s2 ⟨y,H2,I2,r2,q2⟩=>?_;exact hf v u s2 x y H2 I2 U r2 q2
def D1 {G:Operator}{r:R2}(M:ci X (binaryOp G) r)(ha:PE X a ta)(hb:PE X b tb):PE X (.BinOp a G b pos) (D0 r ta tb):=by
 intro aa s σ H Q I h;exact wpAny_BinOp (By ha hb I h λv u s2 x y H2 O T U q=>M aa s2 σ H2 x y v u Q O T U q)
def D2 {G:UnaryOp}{r:V->Hp->VK->Prop}(M:Dz X (unaryOp G) r)(ha:PE X a ta):PE X (.UnaryOp G a pos) (IP r ta):=by
 intro aa s σ H Q I h;exact UnaryOp_ (bN (ha aa s σ H _ I h) λv s1 ⟨x,O,T,U,q1⟩=>M aa s1 σ O x v Q T U q1)
def FU {f:Value->Value->Sem Value}{C:Int->Int->Prop}{g:Int->Int->Int}
  (rule:∀(i j:Int)(t u:Tok)(s:Shared)(Q:QV)(E:QV),C i j->Q (.int (g i j) s.toks) { s with toks:=s.toks+1 }->wq X (f (.int i t) (.int j u)) Q E s):
  ci X f (rI C λi j=>.int (g i j)):=by
 intro aa s σ H x y v u Q I G M h;obtain⟨i,j,rfl,rfl,hc,q⟩:=h;obtain⟨t,rfl⟩:=G;obtain⟨t',rfl⟩:=M;exact rule i j t t' s _ _ hc ⟨.int (g i j),H,I.tok _,⟨_,rfl⟩,q⟩
def D3 {f:Value->Value->Sem Value}{g:Int->Int->Int}
  (rule:∀(i j:Int)(t u:Tok)(s:Shared)(Q:QV)(E:QV),Q (.int (g i j) s.toks) { s with toks:=s.toks+1 }->wq X (f (.int i t) (.int j u)) Q E s):
  ci X f (yM λi j=>.int (g i j)):=by
 intro aa s σ H x y v u Q I G M h;obtain⟨i,j,rfl,rfl,q⟩:=h;obtain⟨t,rfl⟩:=G;obtain⟨t',rfl⟩:=M;exact rule i j t t' s _ _ ⟨.int (g i j),H,I.tok _,⟨_,rfl⟩,q⟩
def yN {f:Value->Value->Sem Value}{g:Int->Int->Bool}
  (rule:∀(i j:Int)(t u:Tok)(s:Shared)(Q:QV)(E:QV),Q (.bool (g i j)) s->wq X (f (.int i t) (.int j u)) Q E s):
  ci X f (yM λi j=>.bl (g i j)):=by
 intro aa s σ H x y v u Q I G M h;obtain⟨i,j,rfl,rfl,q⟩:=h;obtain⟨t,rfl⟩:=G;obtain⟨t',rfl⟩:=M;exact rule i j t t' s _ _ ⟨.bl (g i j),H,I,rfl,q⟩
def D4 (i j:Int):Prop:=0<j/\j<1073741824
def yO (i j:Int):Prop:=(-(2 ^ 64)<i/\i<2 ^ 64)∨(-(2 ^ 64)<j/\j<2 ^ 64)
def yO.ok (h:yO i j):IntMulOk i j:=by
 rcases h with⟨h1,h2⟩|⟨h1,h2⟩
 ·exact .of_left (intBits_le_64 h1 h2)
 ·exact .of_right (intBits_le_64 h1 h2)
def Bz:ci X (binaryOp .Add) (yM λi j=>.int (i+j)):=D3 λ_ _ _ _ _ _ _ q=>add_int q
def B1:ci X (binaryOp .Sub) (yM λi j=>.int (i - j)):=D3 λ_ _ _ _ _ _ _ q=>sub_int q
def B3:ci X (binaryOp .Mult) (rI yO λi j=>.int (i*j)):=FU λ_ _ _ _ _ _ _ hc q=>mul_int q hc.ok
def yP:ci X (binaryOp .FloorDiv) (rI D4 λi j=>.int (i / j)):=FU λi j _ _ _ _ _ hc q=>by
 have h1:(0:Int)<j:=hc.1;have h2:j<1073741824:=hc.2;exact floordiv_int (by omega) (by rw[Int.fdiv_eq_ediv_of_nonneg i (by omega)];exact q) (.inl (PyProof.noPylong_small (by omega)))
def B4:ci X (binaryOp .Mod) (rI (λ_ j=>0<j) λi j=>.int (i % j)):=FU λi j _ _ _ _ _ hc q=>by
 have h1:(0:Int)<j:=hc;exact mod_int' (by omega) (by rw[Int.fmod_eq_emod_of_nonneg i (by omega)];exact q)
def IQ {f:Value->Sem Value}{g:Int->Int}
  (rule:∀(i:Int)(t:Tok)(s:Shared)(Q:QV)(E:QV),Q (.int (g i) s.toks) { s with toks:=s.toks+1 }->wq X (f (.int i t)) Q E s):
  Dz X f (rU λi=>.int (g i)):=by
 intro aa s σ H x v Q I G h;obtain⟨i,rfl,q⟩:=h;obtain⟨t,rfl⟩:=G;exact rule i t s _ _ ⟨.int (g i),H,I.tok _,⟨_,rfl⟩,q⟩
def B5:Dz X (unaryOp .USub) (rU λi=>.int (-i)):=IQ λ_ _ _ _ _ q=>neg_int q
def uh:ci X (binaryOp .Add) (λx y H Q=>∃i k,x=.int i/\y=.bl k/\Q (.int (i+b2i k)) H):=by
 intro aa s σ H x y v u Q I G M h;obtain⟨i,k,rfl,rfl,q⟩:=h;obtain⟨t,rfl⟩:=G;cases M
 exact add_int_bool ⟨.int (i+b2i k),H,I.tok _,⟨_,rfl⟩,q⟩
end
section
variable {X:Cx}{a b c:Expr}{ta tb tc:TE}{pos:Pos}
def D5:ci X (compareOp .Lt) (yM λi j=>.bl (decide (i<j))):=yN λ_ _ _ _ _ _ _ q=>lt_int q
def D6:ci X (compareOp .LtE) (yM λi j=>.bl (decide (i<=j))):=yN λ_ _ _ _ _ _ _ q=>le_int q
def D7:ci X (compareOp .Gt) (yM λi j=>.bl (decide (j<i))):=yN λ_ _ _ _ _ _ _ q=>gt_int q
def D8:ci X (compareOp .GtE) (yM λi j=>.bl (decide (j<=i))):=yN λ_ _ _ _ _ _ _ q=>ge_int q
def ci.or (h:ci X f r)(h':ci X f r'):ci X f (λx y H Q=>r x y H Q∨r' x y H Q):=by
 intro aa s σ H x y v u Q I G M q;rcases q with q|q
 ·exact h aa s σ H x y v u Q I G M q
 ·exact h' aa s σ H x y v u Q I G M q
def yQ (G:ci X (compareOp op) r)(ha:PE X a ta)(hb:PE X b tb)(hm:behindInMarks op b=false):PE X (.Compare a [op] [b] pos) (D0 r ta tb):=by
 intro aa s σ H Q I h;exact wpAny_Compare1 (By ha hb I h λv u s2 x y H2 M O T q=>G aa s2 σ H2 x y v u Q M O T q) hm
def A2 (t:TE):TT:=λσ H Q=>t σ H λx H'=>∃k,x=.bl k/\Q k H'
def so {G:CmpOp}{r:R2}(M:ci X (compareOp G) r)(ha:PE X a ta)(hb:PE X b tb)(hm:behindInMarks G b=false):PT X (.Compare a [G] [b] pos) (A2 (D0 r ta tb)):=by
 intro aa s σ H Q I h;refine wpAny_isTrue_Compare1 (bN (ha aa s σ H _ I h) λv s1 ⟨x,O,T,U,q1⟩=>bN (hb aa s1 σ O _ T q1) λu s2 ⟨y,H2,I2,r2,q2⟩=>
  bN (M aa s2 σ H2 x y v u _ I2 U r2 q2) λc s3 ⟨z,H3,I3,r3,k,e,q3⟩=>?_) hm
 subst e;cases r3
 exact wpAny_truthy_bool ⟨H3,I3,q3⟩
def qW (r M:R2)(ta tb tc:TE):TE:=λσ H Q=>ta σ H λx O=>tb σ O λy H2=>r x y H2 λz G=>∃k,z=.bl k /\
 (if k=true then tc σ G λT U=>M y T U Q else Q (.bl false) G)
def wl {M G:CmpOp}{r T:R2}(ho:ci X (compareOp M) r)(O:ci X (compareOp G) T)(ha:PE X a ta)(hb:PE X b tb)(hc:PE X c tc)
  (hm:lastMarks [M,G] [b,c]=false:=by with_unfolding_all rfl):PE X (.Compare a [M,G] [b,c] pos) (qW r T ta tb tc):=by
 intro aa s σ H Q I h;refine Compare_chain (bN (ha aa s σ H _ I h) λv s1 ⟨x,H1,I1,r1,q1⟩=>chain_link (bN (hb aa s1 σ H1 _ I1 q1) λu s2 ⟨y,H2,I2,U,q2⟩=>
  bN (ho aa s2 σ H2 x y v u _ I2 r1 U q2) λd s3 ⟨z,H3,I3,r3,k,e,q3⟩=>?_)) hm
 subst e;cases r3
 refine wpAny_truthy_bool ?_;cases k with
 |false=>exact ite_ff ⟨.bl false,H3,I3,rfl,q3⟩
 |true=>exact ite_tt (chain_last (bN (hc aa s3 σ H3 _ I3 q3) λw' s4 ⟨z',H4,I4,r4,q4⟩=>O aa s4 σ H4 y z' u w' Q I4 U r4 q4))
def wm {M G:CmpOp}{r T:R2}(ho:ci X (compareOp M) r)(O:ci X (compareOp G) T)(ha:PE X a ta)(hb:PE X b tb)(hc:PE X c tc)
  (hm:lastMarks [M,G] [b,c]=false:=by with_unfolding_all rfl):PT X (.Compare a [M,G] [b,c] pos) (A2 (qW r T ta tb tc)):=by
 intro aa s σ H Q I h;refine isTrue_chain (bN (ha aa s σ H _ I h) λv s1 ⟨x,H1,I1,r1,q1⟩=>test_link (bN (hb aa s1 σ H1 _ I1 q1) λu s2 ⟨y,H2,I2,U,q2⟩=>
  bN (ho aa s2 σ H2 x y v u _ I2 r1 U q2) λd s3 ⟨z,H3,I3,r3,k,e,q3⟩=>?_)) hm
 subst e;cases r3
 refine wpAny_truthy_bool ?_;cases k with
 |false=>
  obtain⟨k',e',q'⟩:=q3;cases e'
  exact ite_ff ⟨H3,I3,q'⟩
 |true=>
  refine ite_tt (test_last (bN (hc aa s3 σ H3 _ I3 q3) λw' s4 ⟨z',H4,I4,r4,q4⟩=>bN (O aa s4 σ H4 y z' u w' _ I4 U r4 q4) λd' s5 ⟨z2,H5,I5,r5,k2,e2,q5⟩=>?_));subst e2;cases r5
  exact wpAny_truthy_bool ⟨H5,I5,q5⟩
def j4:(sizeLine:Nat)<2 ^ 63:=by rw[sizeLine_eq];decide
def qX:ci X (binaryOp .Add) (λx y H Q=>∃i j,x=.str i/\y=.str j/\i.length+j.length<=sizeLine/\Q (.str (i++j)) H):=by
 intro aa s σ H x y v u Q I G M h;obtain⟨i,j,rfl,rfl,hz,q⟩:=h;obtain⟨t,rfl⟩:=G;obtain⟨t',rfl⟩:=M;exact add_str (λt' O=>⟨.str (i++j),H,I.tok _,⟨_,rfl⟩,q⟩) hz
def gA (r:aO [x] us):∃u,us=[u]/\aP x u:=by
 cases r with
 |cons G M=>cases M;exact⟨_,rfl,G⟩
def sq (r:aO [x,y] us):∃u G,us=[u,G]/\aP x u/\aP y G:=by
 cases r with
 |cons M O=>
  cases O with
  |cons T U=>cases U;exact⟨_,_,rfl,M,T⟩
def ui (hc:X.calm=true):bp X (.builtin "max") (λxs H Q=>∃i j,xs=[.int i,.int j]/\Q (.int (if j > i then j else i)) H):=by
 intro aa s σ H xs us Q I r h;obtain⟨i,j,rfl,q⟩:=h;obtain⟨u,G,rfl,⟨t,rfl⟩,⟨t',rfl⟩⟩:=sq r;refine max_two_ints (I.ok.hd hc) λh' M k=>⟨_,H,I.kept k,?_,q⟩;by_cases hj:j > i
 ·rw[if_pos hj,if_pos hj];exact⟨_,rfl⟩
 ·rw[if_neg hj,if_neg hj];exact⟨_,rfl⟩
def uj (hc:X.calm=true):bp X (.builtin "min") (λxs H Q=>∃i j,xs=[.int i,.int j]/\Q (.int (if j<i then j else i)) H):=by
 intro aa s σ H xs us Q I r h;obtain⟨i,j,rfl,q⟩:=h;obtain⟨u,G,rfl,⟨t,rfl⟩,⟨t',rfl⟩⟩:=sq r;refine min_two_ints (I.ok.hd hc) λh' M k=>⟨_,H,I.kept k,?_,q⟩;by_cases hj:j<i
 ·rw[if_pos hj,if_pos hj];exact⟨_,rfl⟩
 ·rw[if_neg hj,if_neg hj];exact⟨_,rfl⟩
def uk:bp X (.type "int") (λxs H Q=>(∃i,xs=[.int i]/\Q (.int i) H)∨∃k,xs=[.bl k]/\Q (.int (if k then 1 else 0)) H):=by
 intro aa s σ H xs us Q I r h;rcases h with⟨i,rfl,q⟩|⟨k,rfl,q⟩
 ·obtain⟨u,rfl,t,rfl⟩:=gA r;exact call_int_int ⟨.int i,H,I,⟨_,rfl⟩,q⟩
 ·obtain⟨u,rfl,G⟩:=gA r;cases G
  exact call_int_bool ⟨.int (if k then 1 else 0),H,I.tok _,⟨_,rfl⟩,q⟩
end
structure Av (h:Heap)(x dx C:Addr)(mA:Str->Option Value):Prop where
 obj:h.get? x=some (PySem.W.instObj C dx)
 ns:h.Ns1 dx mA
 ne:dx≠x
def ul {h:Heap}{dx:Addr}{mA:SV}(n:h.Ns1 dx mA):∃od,h.get? dx=some od/\∀name,PySem.W.lookIn name od=some (mA name):=by
 obtain⟨o,es,T,M,hd,hk,_,hm⟩:=n;refine⟨o,M,λname=>?_⟩;have e:=hm name;unfold nsFind findBy at e;rw[←Array.find?_toList]at e;unfold PySem.W.lookIn;rw[hd];dsimp only;split
 ·rename_i y q;rw[q]at e;exact congrArg some e
 ·rename_i q;rw[q]at e;have a:es.toList.any (·.refKey)=false:=by
   rw[List.any_eq_false];intro y hy;obtain⟨z,t,G⟩:=hk y (Array.mem_toList_iff.mp hy);simp[DictEntry.refKey,G]
  have O:¬es.toList.any (·.refKey)=true:=by rw[a];exact uY
  rw[if_neg O];exact congrArg some e
def Av.look (I:Av h x dx C mA):∃od,PySem.W.InstAt h x (PySem.W.instObj C dx) C (some od)/\∀name,PySem.W.lookIn name od=some (mA name) :=
 let ⟨od,G,hl⟩:=ul I.ns
 ⟨od,⟨I.obj,rfl,rfl,G⟩,hl⟩
section
variable {prog:Program}{w:World}{A:Around}{E:QV}{s:Shared}{K:Frag}{x dx C f:Addr}{mA:SV}{name:Str}{v:Value}
end
def oW.none_of (r:oW none o):o=none:=by
 cases o with
 |none=>rfl
 |some u=>exact(show False from r).elim
section
variable {P:Program}{w:World}{H H':Hp}{h h':Heap}{a C dx:Addr}{fs Jt:List (Str×V)}
def sr (hok:kD P w H h)(e:H a=some (.ins C dx fs)):∃mA,Av h a dx C mA/\(∀f,oW (fs.lookup f) (mA f))/\PySem.Within mA (fs.map (·.1))/\fs.length<=1000/\H dx=some (.own a):=by
 obtain⟨d,z,ne,ob,mA,n,r,q⟩:=(show bH P w H h a (.ins C dx fs)from hok a _ e);exact⟨mA,⟨ob,n,ne⟩,r,q,z,d⟩
end
structure Cls (K:Frag)(C:Addr):Prop where
 pg:PySem.W.plainGet K C Str.empty=true
 hd:PySem.W.hasDictIn K C=true
 po:PySem.W.plainOver K C=true
 sa:PySem.W.findIn K (.ref C) "__setattr__" = some (some (.builtin "object.__setattr__"))
def Cls.get {K:Frag}{C:Addr}(c:Cls K C)(f:Str):PySem.W.plainGet K C f=true:=c.pg
structure Meth (K:Frag)(C:Addr)(m:Str)(f:Addr):Prop where
 at_:PySem.W.findIn K (.ref C) m=some (some (.ref f))
 fn:PySem.W.isFn K (.ref f)=true
 kp:PySem.W.keepIn K (.ref f)=true
section
variable {X:Cx}{aa:AO}{σ:St}{H:Hp}{s:Shared}{a C dx:Addr}{fs:List (Str×V)}{f:Str}{v:V}{A:Around}{E:QV}
def Inv.made (I:Inv X aa σ H s):Inv X aa σ (upd (upd H s.heap.objs.size (.own (s.heap.objs.size+1))) (s.heap.objs.size+1) (.ins C s.heap.objs.size []))
  { s with heap:=(s.heap.push PySem.W.emptyDict).push (PySem.W.instObj C s.heap.objs.size) }:=by
 have G:(s.heap.push PySem.W.emptyDict).get? s.heap.objs.size=some PySem.W.emptyDict:=vY s.heap rfl;have M:((s.heap.push PySem.W.emptyDict).push (PySem.W.instObj C s.heap.objs.size)).get? (s.heap.objs.size+1)=some (PySem.W.instObj C s.heap.objs.size):=by
  have:=vY (s.heap.push PySem.W.emptyDict) (o:=PySem.W.instObj C s.heap.objs.size) rfl;rwa [Heap.size_push]at this
 have O:(s.heap.push PySem.W.emptyDict).Ns s.heap.objs.size (λ_=>none):=⟨PySem.W.emptyDict,#[],_,G,rfl,(λe he=>absurd he (by simp)),λ_=>rfl⟩;have T:=I.laid (a:=s.heap.objs.size) (o:=.own (s.heap.objs.size+1)) (h':=s.heap.push PySem.W.emptyDict) (t':=s.toks) (λb u q=>vZ _ q) (vT _) ⟨_,G⟩;refine T.laid (a:=s.heap.objs.size+1) (o:=.ins C s.heap.objs.size []) (t':=s.toks) (λb u q=>vZ _ q) (Nat.le_of_eq (Heap.size_push _ _)) ?_;have ne:s.heap.objs.size≠s.heap.objs.size+1:=vS (lt_succ_self _);refine⟨by rw[aE ne,a8],uO _,ne,M,λ_=>none,(Heap.Ns1.of_empty O).at λo q=>vZ _ q,λ_=>True.intro,λy hy=>absurd rfl hy⟩
end
section
variable {X:Cx}{o e value:Expr}{f:Str}{pos pos' Jy:Pos}{ta tv:TE}
end
section
variable {X:Cx}{aa:AO}{σ:St}{H:Hp}{s:Shared}{A:Around}{E:QV}{Q:QV}{c:Value}{b:Bool}
inductive TyOf (K:Frag)(H:Hp):V->Value->Prop where
 |non:TyOf K H .non (.type "NoneType")
 |bl (x:Bool):TyOf K H (.bl x) (.type "bool")
 |int (i:Int):TyOf K H (.int i) (.type "int")
 |str (x:Str):TyOf K H (.str x) (.type "str")
 |flt (x:UInt64):TyOf K H (.flt x) (.type "float")
 |lst {a:Addr}{xs:List V}(e:H a=some (.lst xs)):TyOf K H (.ref a) (.type "list")
 |frz {a:Addr}{o:Obj}{xs:List V}(e:H a=some (.frz o (.lst xs))):TyOf K H (.ref a) (.type "list")
 |tup {a:Addr}{xs:List V}(e:H a=some (.tup xs)):TyOf K H (.ref a) (.type "tuple")
 |dK {a:Addr}{bx:List (iI×V)}{ob:Obj}(e:H a=some (.dK bx ob)):TyOf K H (.ref a) (.type "dict")
 |dT {a:Addr}{bx:List (List iI×V)}(e:H a=some (.dT bx)):TyOf K H (.ref a) (.type "dict")
 |ins {a C dx:Addr}{fs:List (Str×V)}(e:H a=some (.ins C dx fs)) (cl:Cls K C) (ha:PySem.W.findIn K (.ref C) "__class__" = some (some (.builtin "object.__class__")))
   (hn:PySem.W.specialIn K (.builtin "object.__class__") "__get__" = some (some (.builtin "getset_descriptor.__get__"))) (HS:PySem.W.takesIn K (.builtin "object.__class__")=some true)
   (hm:PySem.W.mroIn K C (.type "object")=some true):TyOf K H (.ref a) (.ref C)
def eG (I:Inv X aa σ H s)(G:aP x u)(ty:TyOf X.K H x t)(e:PySem.W.kitOne X.K t c=some b)(h:∀T,Q (.bool b) { s with toks:=T }):
  wpAny (model X.prog X.w) A (call (.builtin "isinstance") [u,c]) Q E s:=by
 cases ty with
 |non=>cases (show u=Value.none from G);exact kia_one PySem.W.kitx_none I.kIn True.intro e (λz=>nomatch z) h
 |bl y=>cases (show u=Value.bool y from G);exact kia_one PySem.W.kitx_bool I.kIn True.intro e (λz=>nomatch z) h
 |int i=>obtain⟨t,q⟩:=(show ∃t,u=Value.int i t from G);cases q;exact kia_one PySem.W.kitx_int I.kIn True.intro e (λz=>nomatch z) h
 |str y=>obtain⟨t,q⟩:=(show ∃t,u=Value.str y t from G);cases q;exact kia_one PySem.W.kitx_str I.kIn True.intro e (λz=>nomatch z) h
 |flt y=>obtain⟨t,q⟩:=(show ∃t,u=Value.float y t from G);cases q;exact kia_one PySem.W.kitx_float I.kIn True.intro e (λz=>nomatch z) h
 |@lst a xs M=>
  cases (show u=Value.ref a from G)
  obtain⟨_,_,n,_,h1⟩:=(show bH X.prog X.w H s.heap a (.lst xs)from I.hok a _ M);exact kia_one PySem.W.kitx_list I.kIn ⟨_,h1,rfl⟩ e (λz=>nomatch z) h
 |@frz a ob xs M=>
  cases (show u=Value.ref a from G)
  obtain⟨_,_,_,n,_,h1⟩:=(show bH X.prog X.w H s.heap a (.frz ob (.lst xs))from I.hok a _ M);exact kia_one PySem.W.kitx_list I.kIn ⟨_,h1,rfl⟩ e (λz=>nomatch z) h
 |@tup a xs M=>
  cases (show u=Value.ref a from G)
  obtain⟨_,_,_,p⟩:=(show bH X.prog X.w H s.heap a (.tup xs)from I.hok a _ M);obtain⟨o,h1,h2,_⟩:=p;exact kia_one PySem.W.kitx_tuple I.kIn ⟨o,h1,h2⟩ e (λz=>nomatch z) h
 |@dK a bx ob M=>
  cases (show u=Value.ref a from G)
  obtain⟨_,_,_,vs,_,p⟩:=(show bH X.prog X.w H s.heap a (.dK bx ob)from I.hok a _ M);obtain⟨o,es,U,h1,h2,_⟩:=p;exact kia_one PySem.W.kitx_dict I.kIn ⟨o,h1,h2.1⟩ e (λz=>nomatch z) h
 |@dT a bx M=>
  cases (show u=Value.ref a from G)
  obtain⟨_,_,xs,_,o,es,U,h1,h2,_⟩:=(show bH X.prog X.w H s.heap a (.dT bx)from I.hok a _ M);exact kia_one PySem.W.kitx_dict I.kIn ⟨o,h1,h2.1⟩ e (λz=>nomatch z) h
 |@ins a C dx fs M cl ha hn HS hm=>
  cases (show u=Value.ref a from G)
  obtain⟨mA,O,_⟩:=sr I.hok M;obtain⟨od,J,_⟩:=O.look;exact kia_one (PySem.W.kitx_own (cl.get _) cl.hd ha hn HS hm) I.kIn J e (λz=>nomatch z) h
end
structure dY (k:Nat)(A:Around):Prop where
 hd:A.handled=none
 dp:A.depth+3*k+5<recursionLimit
 un:A.units+16*k+200<cLine
def dY.mono (r:dY k A)(h:j<=k):dY j A:=⟨r.hd,by have:=r.dp;omega,by have:=r.un;omega⟩
def dY.deeper (r:dY (k+1) A)(env:Env):dY k (A.deeper env) :=
 ⟨r.hd,by have:=r.dp;show A.depth+1+3*k+5<_;omega,by have:=r.un;show A.units+3+16*k+200<_;omega⟩
def dY.depth (r:dY k A):A.depth<recursionLimit:=by have:=r.dp;omega
def B7:TA:=λ_ H Q=>Q [] H
def wo (ta:TE)(G:TA):TA:=λσ H Q=>ta σ H λx M=>G σ M λxs H2=>Q (x::xs) H2
section
variable {X:Cx}{e:Expr}{es:QD}{te:TE}{t:TA}{pos:Pos}
def dP:PA X [] B7:=λ_ _ _ _ H Q I h=>Calls.spliced_nil ⟨[],H,I,.nil,h⟩
def cy (ha:PE X e te)(G:PA X es t)(hs:starEach (e::es) X.env=(false,eval e X.env)::starEach es X.env:=by rfl):PA X (e::es) (wo te t):=by
 intro pos aa s σ H Q I h;rw[hs];show wpAny _ _ (spliced ((false,eval e X.env)::backTo pos (starEach es X.env))) _ _ s;refine Calls.spliced_cons (bN (ha aa s σ H _ I h) λu s1 ⟨x,M,O,T,U⟩=>?_);exact bN (G pos aa s1 σ M _ O U) λus s2 ⟨xs,H2,I2,r2,q2⟩=>⟨x::xs,H2,I2,.cons T r2,q2⟩
def FW (t:TA):TE:=λσ H Q=>t σ H λxs G=>xs.length<=sizeLine/\∀p,G p=none->Q (.ref p) (upd G p (.tup xs))
def FX (t:TA):TE:=λσ H Q=>t σ H λxs G=>xs.length<=sizeLine/\∀p,G p=none->Q (.ref p) (upd G p (.lst xs))
def wt {x1}(h:PA X es t):PE X (.Tuple es x1 pos) (FW t):=by
 intro aa s σ H Q I hq;refine wpAny_Tuple_spliced (bN (h pos aa s σ H _ I hq) λus s1 ⟨xs,G,M,r,z,q⟩=>⟨by rw[←r.length];exact z,?_⟩);have hf:G s1.heap.objs.size=none:=M.hok.fresh (vT _);refine⟨.ref s1.heap.objs.size,upd G s1.heap.objs.size (.tup xs),M.laid (t':=s1.toks) (λb u e=>vZ _ e) (vT _) ?_,rfl,q _ hf⟩;exact⟨z,us,r,⟨_,vY _ rfl,rfl,_,rfl⟩⟩
def B8 (h:PA X es t):PE X (.List es pos) (FX t):=by
 intro aa s σ H Q I hq;refine wpAny_List_spliced (bN (h pos aa s σ H _ I hq) λus s1 ⟨xs,G,M,r,z,q⟩=>⟨by rw[←r.length];exact z,?_⟩);have hf:G s1.heap.objs.size=none:=M.hok.fresh (vT _);refine⟨.ref s1.heap.objs.size,upd G s1.heap.objs.size (.lst xs),M.laid (t':=s1.toks) (λb u e=>vZ _ e) (vT _) ?_,rfl,q _ hf⟩;exact⟨z,us,0,r,vY _ rfl⟩
end
abbrev Sp:=List V->Hp->VK->XK->Prop
abbrev A4:=List Env->Hp->Shared->XK->QV
structure Env0 (P:Program)(w:World)(K:Frag)(mg:Str->Option Value)(base:Heap)(A:Around)(outer:List Env)(s:Shared)(H:Hp):Prop where
 frames:A.frames=some outer
 mod:Mod K mg base
 bs:∀b o,base.get? b=some o->s.heap.get? b=some o/\H b=none
 bsz:base.objs.size<=s.heap.objs.size
 funs:s.heap.FunFrames base outer
 frf:∀b∈vy outer,H b=none
 hok:kD P w H s.heap
 bare:AllBare s.gens
def CE (outer:List Env)(P:Program)(w:World)(H:Hp)(s:Shared)(Q:VK)(u:Value)(G:Shared):Prop :=
 ∃v H',G.os=s.os/\AllBare G.gens/\Un (vy outer) [] H H' s.heap G.heap/\kD P w H' G.heap/\aP v u/\Q v H'
def CR (CX:A4)(outer:List Env)(P:Program)(w:World)(H:Hp)(s:Shared)(Q:VK)(E:XK)(r:Result)(G:Shared):Prop :=
 match r with
 |.ok (.ret u)=>CE outer P w H s Q u G
 |.ok _=>False
 |.error e=>CX outer H s E e G
structure my (P:Program)(w:World)(K:Frag)(mg:Str->Option Value)(base:Heap)(CX:A4)(k:Nat)(f:Addr)(fd:FuncData)(ps:List Str)(sp:Sp):Prop where
 len:∀vs H Q E,sp vs H Q E->vs.length=ps.length
 run:∀(A:Around)(outer:List Env)(s:Shared)(H:Hp)(args:Args)(us:List Value)(vs:List V)(Q:VK)(E:XK),dY k A->Env0 P w K mg base A outer s H->BindsTo s fd args (ps.zip us)->aO vs us->sp vs H Q E ->
  codeAny (model P w) A (.call (.ref f) args) (CR CX outer P w H s Q E) s
section
variable {X:Cx}{aa:AO}{σ:St}{H:Hp}{s s':Shared}
def Inv.env0 (I:Inv X aa σ H s):Env0 X.prog X.w X.K X.mg X.base X.A X.stack s H :=
 ⟨I.ok.frames,I.ok.mod,I.bs,vR I.ok.bsz I.sz,I.stack,I.stkFree,I.hok,I.bare⟩
def Inv.after (I:Inv X aa σ H s)(h:CE X.stack X.prog X.w H s Q u s'):EP X aa σ Q u s':=by
 obtain⟨v,H',os,bare,un,hok,r,q⟩:=h;obtain⟨hh,g,d,t,G⟩:=s';obtain rfl:G=s.os:=os;exact⟨v,H',I.call (h':=hh) (g':=g) (d':=d) (t':=t) (ch:=[]) un hok bare (λb z=>absurd z (by simp)),r,q⟩
end
def DA (sp:Sp)(G:List V)(E:XK)(t:TA):TE:=λσ H Q=>t σ H λvs M=>sp (vs++G) M Q E
def m3 (K:Frag)(fd:FuncData)(ps:LS)(ds:LU):Prop :=
 ∀(s:Shared)(us:LU),K.In s.heap->(us++ds).length=ps.length->BindsTo s fd ⟨us,[]⟩ (ps.zip (us++ds))
def m3.all {K:Frag}{fd:FuncData}{ps:LS}(h:∀us:LU,us.length=ps.length->bindArgs fd ⟨us,[]⟩=pure (ps.zip us)):m3 K fd ps []:=λs us _ hl=>by
 rw[append_nil]at hl ⊢;exact .of_eq (h us hl)
def qZ (CX:A4)(X:Cx)(E:XK):Prop:=∀(aa:AO)(σ:St)(H:Hp)(s:Shared)(e:Value)(G:Shared),Inv X aa σ H s->CX X.stack H s E e G->X.xe e G
section
variable {X:Cx}{CX:A4}{k:Nat}{f C:Addr}{fd:FuncData}{ps:LS}{sp:Sp}{Dh:List V}{ds:LU}{E:XK}{x m:Str}{p pos kB:Pos}{e o:Expr}{es:QD}{ta:TE}{t:TA}
def B9 {aa:AO}{σ:St}{H:Hp}{s:Shared}{Q:VK}{us:LU}{vs:List V}(F:my X.prog X.w X.K X.mg X.base CX k f fd ps sp)(M:dY k X.A)(hb:m3 X.K fd ps ds)(hd:aO Dh ds)(hx:qZ CX X E)
  (I:Inv X aa σ H s) (r:aO vs us) (h:sp (vs++Dh) H Q E):wq X (call (.ref f) us) (EP X aa σ Q) X.xe s:=by
 have G:aO (vs++Dh) (us++ds):=r.append hd;have hl:(us++ds).length=ps.length:=by rw[←G.length];exact F.len _ _ _ _ h
 refine wpAny_call (codeAny_mono (F.run X.A X.stack s H ⟨us,[]⟩ (us++ds) (vs++Dh) Q E M I.env0 (hb s us I.kIn hl) G h) λr O hq=>?_);cases r with
 |error e=>exact hx aa σ H s e O I hq
 |ok T=>
  cases T with
  |ret u=>exact I.after hq
  |next=>exact False.elim hq
  |brk=>exact False.elim hq
  |cont=>exact False.elim hq
def yR (F:my X.prog X.w X.K X.mg X.base CX k f fd ps sp)(T:dY k X.A)(U:Gl X x)(hm:X.mg x=some (.ref f))(hk:PySem.W.keepIn X.K (.ref f)=true)(hb:m3 X.K fd ps ds)(hd:aO Dh ds)(hx:qZ CX X E)
  (ha:PA X (e::es) t) (G:(x == ("__debug__" : Str))=false:=by decide) (he:starEach (e::es) X.env=(false,eval e X.env)::starEach es X.env:=by rfl) (M:(backTo pos (starEach es X.env)).any (·.1)=false:=by rfl):
  PE X (.Call (.Name x p) (e::es) [] pos) (DA sp Dh E t):=by
 intro aa s σ H Q I h;refine wpAny_Call_Name_kw (sj I U hm ?_ G);refine PySem.W.callWith_K (h₀:=X.base) I.ok.mod.kin hk (bN (ha pos aa s σ H _ I h) λus s1 ⟨vs,H1,O,r,q⟩=>⟨O.kIn,?_⟩) he M;exact B9 F T hb hd hx O r q
end
structure FnScope (N P:List Str)(sc:Scope):Prop where
 kind:sc.kind=.function
 co:sc.isCoroutine=false
 gen:sc.isGenerator=false
 nd:N.Nodup
 pre:N.take P.length=P
 par:∀x∈P,sc.names.lookup x=some .local∨sc.names.lookup x=some .cell
 nofree:∀y∈sc.names,y.2≠.free
theorem m6 {kindOf:Str->Option NameKind}{x:Str}:∀ {binds:List (Str×Value)}{m:SV},(∀v,(x,v)∉binds)->bindL kindOf binds m x=m x
 |[],_,_=>rfl
 | (n,v)::r,m,h=>by
  unfold bindL;rw[m6 λw G=>h w (mZ _ G)];split
  ·have:x≠n:=by rintro rfl;exact h v mX
   simp[this]
  ·rfl
theorem m7 {kindOf:Str->Option NameKind}{x:Str}:∀ {binds:List (Str×Value)}{m:SV},(∀v,(x,v)∉binds)->bindC kindOf binds m x=m x
 |[],_,_=>rfl
 | (n,v)::r,m,h=>by
  unfold bindC;rw[m7 λw G=>h w (mZ _ G)];split
  ·rfl
  ·have:x≠n:=by rintro rfl;exact h v mX
   simp[this]
theorem m8 {kindOf:Str->Option NameKind}{x:Str}{v:Value}:∀ {P:LS}{vs:LU}{i:Nat}{m:SV},P.Nodup->P[i]? = some x->vs[i]? = some v->kindOf x=some .local ->
  bindL kindOf (P.zip vs) m x=some v
 |[],_,_,_,_,h,_,_=>by simp at h
 |_::_,[],_,_,_,_,h,_=>by simp at h
 |p::P,w::vs,0,m,nd,h1,h2,hk=>by
  simp at h1 h2;subst h1;subst h2;show bindL kindOf ((p,w)::P.zip vs) m p=_;unfold bindL;rw[m6 λv G=>(nodup_cons.mp nd).1 (of_mem_zip G).1,if_pos hk];simp
 |p::P,w::vs,i+1,m,nd,h1,h2,hk=>by
  show bindL kindOf ((p,w)::P.zip vs) m x=_;unfold bindL;exact m8 (i:=i) (nodup_cons.mp nd).2 (by simpa using h1) (by simpa using h2) hk
theorem m9 {kindOf:Str->Option NameKind}{x:Str}{v:Value}:∀ {P:LS}{vs:LU}{i:Nat}{m:SV},P.Nodup->P[i]? = some x->vs[i]? = some v->kindOf x≠some .local ->
  bindC kindOf (P.zip vs) m x=some v
 |[],_,_,_,_,h,_,_=>by simp at h
 |_::_,[],_,_,_,_,h,_=>by simp at h
 |p::P,w::vs,0,m,nd,h1,h2,hk=>by
  simp at h1 h2;subst h1;subst h2;show bindC kindOf ((p,w)::P.zip vs) m p=_;unfold bindC;rw[m7 λv G=>(nodup_cons.mp nd).1 (of_mem_zip G).1,if_neg hk];simp
 |p::P,w::vs,i+1,m,nd,h1,h2,hk=>by
  show bindC kindOf ((p,w)::P.zip vs) m x=_;unfold bindC;exact m9 (i:=i) (nodup_cons.mp nd).2 (by simpa using h1) (by simpa using h2) hk
noncomputable def gB (N:LS)(vs:List V):St:=vs.map some++List.replicate (N.length - vs.length) none
noncomputable def kn (CX:A4)(P:Program)(w:World)(K:Frag)(mg:SV)(base:Heap)(N:LS)(qual:Str)(scope:Scope)(f:Addr)(M:Value)(A:Around)(outer:List Env)(s:Shared)(H:Hp)(E:XK):Cx where
 prog:=P
 w:=w
 K:=K
 mg:=mg
 base:=base
 A:=A.deeper (envOfC qual scope s.heap.objs.size f M)
 N:=N
 s₀:=s
 H₀:=H
 env:=envOfC qual scope s.heap.objs.size f M
 outer:=outer
 stack:=envOfC qual scope s.heap.objs.size f M::outer
 ex:=[]
 calm:=true
 fn:=λ_=>true
 pn:=[]
 xe:=λe O=>wpAny (model P w) (A.deeper (envOfC qual scope s.heap.objs.size f M)) (leaving (envOfC qual scope s.heap.objs.size f M) e) (λ_ G=>CX outer H s E e G) (λT G=>CX outer H s E T G) O
def pe {sc:Scope}{n:Nat}{x:Str}(h:sc.names.lookup x=some .cell):∃c,(cellsFrom n sc.names []).lookup x=some c:=by
 have q:=PySem.W.cellsFrom_some sc.names n [] (.inl h);exact isSome_iff_exists.mp q
def um {CX:A4}{P:Program}{w:World}{K:Frag}{mg:SV}{base:Heap}{N ps:LS}{qual:Str}{scope:Scope}{f:Addr}{U:Value}{A:Around}{outer:List Env}{s s1:Shared}{H:Hp}{E:XK}{us:LU}{vs:List V}
  (S:FnScope N ps scope) (hd:A.handled=none) (G:Env0 P w K mg base A outer s H) (hl:vs.length=ps.length) (r:aO vs us)
  (x:InCallC s s.heap.objs.size (bindL (envOfC qual scope s.heap.objs.size f U).kindOf (ps.zip us) λ_=>none) (cellsFrom (s.heap.objs.size+1) scope.names []) (bindC (envOfC qual scope s.heap.objs.size f U).kindOf (ps.zip us) λ_=>none) s1):
  Inv (kn CX P w K mg base N qual scope f U A outer s H E) [] (gB N vs) H s1:=by
 have y7:ps.length<=N.length:=by have:=congrArg List.length S.pre;rw[length_take]at this;omega
 obtain⟨h1,tk,rfl,hk⟩:=x.done;have M:∀b:Addr,b∉(kn CX P w K mg base N qual scope f U A outer s H E).ex:=λb z=>absurd (show b∈([]:List Addr)from z) (by simp);refine⟨⟨G.mod,S.kind,rfl,rfl,vT _,λy z c h1 h2=>?_,λy hy=>?_,λy c _ h=>?_,λ_=>hd,Around.frames_deeper G.frames,.inr ⟨rfl,rfl⟩,λb z=>absurd z (M b),G.bs,G.bsz,λb _ _=>M b,λb z=>absurd z (M b),G.funs,G.frf⟩,
  rfl,G.bare,Un.kept hk,⟨_,x.toInCall.ns,λi y v h1 h2 h3=>?_⟩,λy c h=>⟨_,x.cell y c h⟩,G.hok.fresh (vT _),λy c h=>?_,λp O=>absurd (show p∈([]:AO)from O) (by simp),G.hok.kept hk,?_⟩
 ·exact name_of_addr x.apart (PySem.mem_of_lookup h1) (PySem.mem_of_lookup h2)
 ·have hy:scope.names.lookup y=some .cell∨scope.names.lookup y=some .free:=hy;rcases hy with hy|hy
  ·exact pe hy
  ·exact absurd rfl (S.nofree _ (PySem.mem_of_lookup hy))
 ·exact le_of_lt (x.above y c (PySem.mem_of_lookup h))
 ·have hi:i<vs.length:=by
   unfold gB at h2;by_cases hi:i<vs.length
   ·exact hi
   ·rw[List.getElem?_append_right (by simpa using hi)]at h2;rw[getElem?_replicate]at h2;split at h2<;>cases h2
  have ha:vs[i]? = some v:=by
   unfold gB at h2;rw[getElem?_append_left (by simpa using hi),vB]at h2;cases e:vs[i]? with
   |none=>rw[e]at h2;cases h2
   |some a=>rw[e]at h2;cases h2;rfl
  obtain⟨u,hu,rv⟩:=r.get ha;have O:ps[i]? = some y:=by
   rw[←S.pre,List.getElem?_take_of_lt (by omega)];exact h1
  have T:ps.Nodup:=by rw[←S.pre];exact S.nd.sublist (List.take_sublist _ _)
  refine⟨u,rv,?_⟩;rcases S.par y (mem_of_getElem? O)with k|k
  ·exact .inl ⟨k,m8 T O hu k⟩
  ·obtain⟨c,e⟩:=pe (n:=s.heap.objs.size+1) k;refine .inr ⟨.inl k,c,e,?_⟩;have q:=x.cell y c e;rw[m9 T O hu (by show scope.names.lookup y≠_;rw[k];decide)]at q;exact q
 ·exact G.hok.fresh (le_of_lt (x.above y c (PySem.mem_of_lookup h)))
 ·unfold gB;show _=N.length;rw[vA,vI,length_replicate];omega
def A5 {CX:A4}{P:Program}{w:World}{K:Frag}{mg:SV}{base:Heap}{k:Nat}{f:Addr}{name qual:Str}{params:Arguments}{G:List Stmt}{scope:Scope}{dV kV doc pm cC ct oc:Value}{an od:Option Addr}
  {kK:Array (Option Value)}{N ps:LS}{sp:Sp}(lk:K.lookup f=some ⟨oc,od,.func (fnOf name qual params G scope dV kV doc pm an cC ct),kK⟩) (CF:PySem.W.codeIn K cC qual=true) (S:FnScope N ps scope)
  (len:∀vs H Q E,sp vs H Q E->vs.length=ps.length)
  (O:∀(A:Around)(outer:List Env)(s:Shared)(H:Hp)(vs:List V)(Q:VK)(E:XK),dY k (A.deeper (envOfC qual scope s.heap.objs.size f cC))->sp vs H Q E ->
   ∃t,me (kn CX P w K mg base N qual scope f cC A outer s H E) G t/\t { nx:=λ_ H'=>Q .non H',rt:=Q } (gB N vs) H):
  my P w K mg base CX (k+1) f (fnOf name qual params G scope dV kV doc pm an cC ct) ps sp:=by
 refine⟨len,λA outer s H args us vs Q E hr U hb r Ft=>?_⟩;have hl:=len _ _ _ _ Ft;have KX:K.In s.heap:=U.mod.kin.keeps λb o e=>(U.bs b o e).1;have Jz:s.heap.NoLimit:=U.mod.nolimit.keeps λb o e=>(U.bs b o e).1;have T:∀y∈ps.zip us,scope.names.lookup y.1=some .local∨(scope.names.lookup y.1=some .cell/\((cellsFrom (s.heap.objs.size+1) scope.names []).lookup y.1).isSome=true):=λ⟨n,v⟩ hy=>by
  rcases S.par n (of_mem_zip hy).1 with q|q
  ·exact .inl q
  ·exact .inr ⟨q,PySem.W.cellsFrom_some _ _ _ (.inl q)⟩
 refine codeAny_call_function hr.depth (KX _ _ lk) rfl S.co S.gen rfl (PySem.W.codeRec_of KX CF) (hb _ _ _ _ ?_);refine wpAny_newFunctionEnv_cells S.kind T λenv he s1 x=>?_;subst he;refine⟨Jz.keeps x.toInCall.keep,codeAny_func ?_⟩;obtain⟨t,ht,hq⟩:=O A outer s H vs Q E (hr.deeper _) Ft;have I:Inv (kn CX P w K mg base N qual scope f cC A outer s H E) [] (gB N vs) H s1:=um S hr.hd U hl r x;refine wpAny_mono (ht [] s1 (gB N vs) H _ I hq) (λfl s' hs=>?_) λe s' hs=>hs;have se:∀ {M:St}{H':Hp}{v:V}{u:Value},Inv (kn CX P w K mg base N qual scope f cC A outer s H E) [] M H' s'->aP v u->Q v H'->CE outer P w H s Q u s' :=
  λ{M H' v u} J rv q=>⟨v,H',J.os,J.bare,J.base,J.hok,rv,q⟩
 cases fl with
 |ret u=>
  obtain⟨v,M,H',J,rv,q⟩:=hs;exact se J rv q
 |next=>
  obtain⟨M,H',J,q⟩:=hs;exact se (v:=V.non) (u:=Value.none) J rfl q
 |brk=>
  obtain⟨_,_,_,q⟩:=hs;exact False.elim q
 |cont=>
  obtain⟨_,_,_,q⟩:=hs;exact False.elim q
section
variable {X:Cx}{x:Str}{p pos:Pos}{e:Expr}{es:QD}{t:TA}{id T:String}{r:List V->Hp->VK->Prop}
def Hv (r:List V->Hp->VK->Prop)(t:TA):TE:=λσ H Q=>t σ H λvs G=>r vs G Q
def kR (hc:bp X (.builtin id) r)(O:Gl X x)(hm:X.mg x=none)(U:bootBuiltins x=some (.builtin id))(ha:PA X (e::es) t)(hn:x ≠ "__name__":=by decide)(G:(x == ("__debug__" : Str))=false:=by decide)
  (he:starEach (e::es) X.env=(false,eval e X.env)::starEach es X.env:=by rfl) (M:(backTo pos (starEach es X.env)).any (·.1)=false:=by rfl):PE X (.Call (.Name x p) (e::es) [] pos) (Hv r t):=by
 intro aa s σ H Q I h;refine wpAny_Call_Name_kw (gg I O hm U ?_ hn G);exact PyProof.Rows.callWith_builtin1 (bN (ha pos aa s σ H _ I h) λus s1 ⟨vs,H1,I1,r1,q1⟩=>hc aa s1 σ H1 vs us Q I1 r1 q1) he M
def j5 (hc:bp X (.type T) r)(O:Gl X x)(hm:X.mg x=none)(U:bootBuiltins x=some (.type T))(ha:PA X (e::es) t)(hn:x ≠ "__name__":=by decide)(G:(x == ("__debug__" : Str))=false:=by decide)
  (he:starEach (e::es) X.env=(false,eval e X.env)::starEach es X.env:=by rfl) (M:(backTo pos (starEach es X.env)).any (·.1)=false:=by rfl):PE X (.Call (.Name x p) (e::es) [] pos) (Hv r t):=by
 intro aa s σ H Q I h;refine wpAny_Call_Name_kw (gg I O hm U ?_ hn G);exact PyProof.Rows.callWith_type1 (bN (ha pos aa s σ H _ I h) λus s1 ⟨vs,H1,I1,r1,q1⟩=>hc aa s1 σ H1 vs us Q I1 r1 q1) he M
end
end L2
namespace HT
open PySem PyProof.Rows
section
open PySem.SeqAt
open PySem.AutoSeq1 (wpAny_loadPart')
open PySem.MeetsSeq PySem.MeetsSeq2 PySem.MeetsSeq3
end
section
variable {prog:Program}{w:World}{A:Around}{E:QV}{s:Shared}
def yS (ht:IsTup s.heap t vs.toArray)(hb:IsTup s.heap b ws.toArray)(hv:vs≠[])
  (h1:ws=[]->Q (.ref t) s) (h2:ws≠[]->Q (.ref s.heap.objs.size) { s with heap:=s.heap.push { cls:=.type "tuple",data:=.seq (vs++ws).toArray } })
  (hsz:vs.length+ws.length<=sizeLine):wpAny (model prog w) A (binaryOp .Add (.ref t) (.ref b)) Q E s:=by
 obtain⟨⟨cls,dd,data,sl⟩,ho,hc,n,hd⟩:=id ht;obtain⟨⟨GH,M,data2,O⟩,G,T,n2,U⟩:=id hb;simp only at hc hd T U;subst hc hd T U;have e:vs.toArray++ws.toArray=(vs++ws).toArray:=by simp
 by_cases hw:ws=[]
 ·exact concat_meets ⟨_,ho,rfl⟩ ⟨_,G,rfl⟩ noFill_tuple_add seq_tuple_add slot_tuple_add entry_tuple_add (args_tuple_add_2 _ _)
   (tuple_addW1 t b vs.toArray ws.toArray n n2 dd M sl O (by simpa using hv) (by simp[hw])) ⟨ho,G,h1 hw⟩
 ·refine concat_meets ⟨_,ho,rfl⟩ ⟨_,G,rfl⟩ noFill_tuple_add seq_tuple_add slot_tuple_add entry_tuple_add (args_tuple_add_2 _ _)
   (tuple_addW2 t b vs.toArray ws.toArray n n2 dd M sl O (by simpa using hv) (by simpa using hw) (by rw[vH,vH];exact hsz)) ⟨ho,G,?_⟩
  rw[e];exact h2 hw
noncomputable def cc (n d:Nat):OI->Nat
 |none=>d
 |some v=>if v<0 then (v+(n:Int)).toNat else min v.toNat n
def wu (n d:Nat):cc n d none=d:=rfl
def yT (n d k:Nat):cc n d (some (k:Int))=min k n:=by
 show(if(k:Int)<0 then ((k:Int)+(n:Int)).toNat else min (k:Int).toNat n)=min k n;rw[if_neg (by omega),toNat_natCast]
def BA (n d:Nat)(hd:d<=n)(o:OI):cc n d o<=n:=by
 cases o with
 |none=>exact hd
 |some v=>
  show(if v<0 then (v+(n:Int)).toNat else min v.toNat n)<=n;by_cases G:v<0
  ·rw[if_pos G];omega
  ·rw[if_neg G];exact Nat.min_le_right _ _
def su (v:Int)(n d:Nat):(if v<0 then max (v+(n:Int)) 0 else min v (n:Int))=((cc n d (some v):Nat):Int):=by
 show(if v<0 then max (v+(n:Int)) 0 else min v (n:Int))=(((if v<0 then (v+(n:Int)).toNat else min v.toNat n):Nat):Int);by_cases G:v<0
 ·simp only[if_pos G];omega
 ·simp only[if_neg G];omega
def ra (lo hi:OI)(n:Nat):Builtin.Slice.sliceAdjust lo hi 1 (n:Int)=(((cc n 0 lo:Nat):Int),((cc n n hi:Nat):Int)):=by
 have h1:¬((1:Int)<0):=by omega
 unfold Builtin.Slice.sliceAdjust;simp only[h1,if_false];refine Prod.ext ?_ ?_
 ·cases lo with
  |none=>rfl
  |some v=>exact su v n 0
 ·cases hi with
  |none=>rfl
  |some v=>exact su v n n
def rb (i j:Nat):Builtin.Slice.slicePlaces (i:Int) (j:Int) 1=j - i:=by
 unfold Builtin.Slice.slicePlaces;have h1:(1:Int) > 0:=by omega
 simp only[h1,if_true,Int.ediv_one];split<;>omega
def kS (p:IsPart v o)(h:Q o s):wpAny (model prog w) A (Builtin.Slice.slicePartIndex v) Q E s:=by
 cases p with
 |none=>exact slicePart_none h
 |int i t=>exact slicePart_int h
def fN {sl:Addr}{vl O:Value}{lo hi:OI}{n:Nat}{Q:Int×Int×Nat->Shared->Prop}(hs:s.heap.IsSliceOf sl vl O .none)(pl:IsPart vl lo)(T:IsPart O hi)
  (h:Q (((cc n 0 lo:Nat):Int),1,cc n n hi - cc n 0 lo) s):wpAny (model prog w) A (Builtin.Slice.sliceApplied (.ref sl) (pure (n:Int))) Q E s:=by
 obtain⟨os,G,U,M⟩:=id hs;unfold Builtin.Slice.sliceApplied Builtin.Slice.sliceFields;refine wX (wX (wpAny_field G M (x:=vl) rfl (wX (wpAny_field G M (x:=O) rfl (wX (wpAny_field G M (x:=.none) rfl (wY ?_)))))));refine wX (slicePart_none ?_);show wpAny _ _ (if((1:Int) == 0)=true then _ else _) _ _ s;rw[if_neg (by decide)];refine wX (kS pl (wX (kS T (wX (wY ?_)))));show wpAny _ _ (match Builtin.Slice.sliceAdjust lo hi 1 (n:Int) with|(lo,hi)=>pure (lo,(1:Int),Builtin.Slice.slicePlaces lo hi 1)) _ _ s;rw[ra lo hi n];show wpAny _ _ (pure (((cc n 0 lo:Nat):Int),(1:Int),Builtin.Slice.slicePlaces ((cc n 0 lo:Nat):Int) ((cc n n hi:Nat):Int) 1)) _ _ s;rw[rb];exact wY h
def wv (xs:AV)(i k:Nat):((List.range k).filterMap λ(m:Nat)=>xs[((i:Int)+(m:Int)*1).toNat]?).toArray=((xs.toList.drop i).take k).toArray:=by
 have e:(λ(m:Nat)=>xs[((i:Int)+(m:Int)*1).toNat]?)=λm=>xs[i+m]?:=by
  funext m;have:((i:Int)+(m:Int)*1).toNat=i+m:=by omega
  rw[this]
 rw[e];have:=pick_run xs i k;rw[List.filterMap_map]at this;have G:((λx=>xs[x]?) ∘ λx=>i+x)=λm=>xs[i+m]?:=rfl;rw[G]at this;rw[this]
def iK {t sl:Addr}{aq:AV}{vl vu:Value}{lo hi:OI}{Q:QV}(M:IsTup s.heap t aq)(hs:s.heap.IsSliceOf sl vl vu .none)(pl:IsPart vl lo)(pu:IsPart vu hi)
  (hw:¬(cc aq.size 0 lo=0/\cc aq.size aq.size hi=aq.size))
  (h:Q (.ref s.heap.objs.size) { s with heap:=s.heap.push { cls:=.type "tuple",data:=.seq ((aq.toList.drop (cc aq.size 0 lo)).take (cc aq.size aq.size hi - cc aq.size 0 lo)).toArray } })
  (hsz:aq.size<=sizeLine):wpAny (model prog w) A (getItem (.ref t) (.ref sl)) Q E s:=by
 have G:sizeOk (.seq ((aq.toList.drop (cc aq.size 0 lo)).take (cc aq.size aq.size hi - cc aq.size 0 lo)).toArray):=by
  show((aq.toList.drop (cc aq.size 0 lo)).take (cc aq.size aq.size hi - cc aq.size 0 lo)).toArray.size<=sizeLine
  rw[vH,length_take,length_drop,vG]
  omega
 have hj:cc aq.size aq.size hi<=aq.size:=BA _ _ (vT _) hi
 obtain⟨os,O,T,GI⟩:=id hs
 have U:s.TypeIs (.ref sl) "slice":=⟨os,O,T⟩
 unfold getItem
 try with_reducible refine wpAny_holding ?_
 first|refine wX (wY ?_)|skip
 refine wX (wpAny_sequenceKey M.typeIs (by decide) ?_)
 refine wX (wpAny_callSpecial?_slot (name:=Str.ofString "__getitem__") M.typeIs PyProof.Rows.slot_tuple_getitem
  (wpAny_call_entry PyProof.Rows.slot_tuple_getitem M.typeIs entry_tuple_getitem ?_ (args_tuple_getitem _ _)))
 show wpAny _ _ (Builtin.Tuple.tupleItemsOf (.ref t)>>=_) _ _ s
 refine wX (tupleItemsOf_ M ?_)
 refine wX (wpAny_typeOf U ?_)
 rw[if_pos (by decide)]
 refine wX (fN hs pl pu ?_)
 have J0:¬((((cc aq.size 0 lo:Nat):Int) == 0 && (1:Int) == 1 && (cc aq.size aq.size hi - cc aq.size 0 lo) == aq.size)=true):=by
  intro q
  rw[vD,vD]at q
  have q1:((cc aq.size 0 lo:Nat):Int)=0:=eq_of_beq q.1.1
  have q2:cc aq.size aq.size hi - cc aq.size 0 lo=aq.size:=eq_of_beq q.2
  exact hw ⟨by omega,by omega⟩
 show wpAny _ _ (if(((cc aq.size 0 lo:Nat):Int) == 0 && (1:Int) == 1 && (cc aq.size aq.size hi - cc aq.size 0 lo) == aq.size)=true then _ else _) _ _ s
 rw[if_neg J0,wv]
 first
  |exact wX (m:=Builtin.Tuple.tupleExact _) (wpAny_newObj_type (wY ⟨_,rfl,wY h⟩) G)
  |exact wX (m:=Builtin.Tuple.tupleExact _) (wpAny_newObj_type (wX (wY (wY ⟨_,rfl,wY h⟩))) G)
  |exact wX (wX (m:=Builtin.Tuple.tupleExact _) (wpAny_newObj_type (wY (wY ⟨_,rfl,wY h⟩)) G))
  |exact wX (wX (m:=Builtin.Tuple.tupleExact _) (wpAny_newObj_type (wY ⟨_,rfl,wY h⟩) G))
end
end HT
namespace L2
open PySem PySem.Spec PyProof.Rows
abbrev TO:=St->Hp->(OI->Hp->Prop)->Prop
def PO (X:Cx)(e:Option Expr)(t:TO):Prop :=
 ∀(aa:AO)(s:Shared)(σ:St)(H:Hp)(Q:OI->Hp->Prop),Inv X aa σ H s->t σ H Q ->
  wq X (evalPart e X.env) (λu G=>∃o H',Inv X aa σ H' G/\IsPart u o/\Q o H') X.xe s
def yU:TO:=λ_ H Q=>Q none H
def DB (t:TE):TO:=λσ H Q=>t σ H λx G=>∃i,x=.int i/\Q (some i) G
section
variable {X:Cx}{e:Expr}{te:TE}{lo hi:Option Expr}{tl th:TO}{pos p2:Pos}
def yV:PO X none yU:=by
 intro aa s σ H Q I h;rw[evalPart_none];exact wY ⟨none,H,I,.none,h⟩
def yW (h:PE X e te):PO X (some e) (DB te):=by
 intro aa s σ H Q I G;rw[evalPart_some];refine bN (h aa s σ H _ I G) λu s1 ⟨x,M,O,T,U⟩=>?_;obtain⟨i,rfl,q⟩:=U;obtain⟨t,rfl⟩:=T;exact⟨some i,M,O,.int i t,q⟩
def vz (X:Cx)(r:V->OI->OI->Hp->VK->Prop):Prop :=
 ∀(aa:AO)(s:Shared)(σ:St)(H:Hp)(x:V)(v vl G:Value)(lo hi:OI)(sl:Addr)(Q:VK),Inv X aa σ H s->aP x v->s.heap.IsSliceOf sl vl G .none->IsPart vl lo->IsPart G hi->r x lo hi H Q ->
  ∃T id,typeLookup (.type T) "__getitem__" = pure (some (.builtin id))/\s.TypeIs v T/\wq X (getItem v (.ref sl)) (EP X aa σ Q) X.xe s
def vz.or (h:vz X r)(h':vz X r'):vz X (λx lo hi H Q=>r x lo hi H Q∨r' x lo hi H Q):=by
 intro aa s σ H x v vl G lo hi sl Q I M hs pl O q;rcases q with q|q
 ·exact h aa s σ H x v vl G lo hi sl Q I M hs pl O q
 ·exact h' aa s σ H x v vl G lo hi sl Q I M hs pl O q
def IT (r:V->OI->OI->Hp->VK->Prop)(te:TE)(tl th:TO):TE:=λσ H Q=>te σ H λx G=>tl σ G λl H2=>th σ H2 λu M=>r x l u M Q
def ww (U:vz X r)(he:PE X e te)(hl:PO X lo tl)(hu:PO X hi th):PE X (.Subscript e (.Slice lo hi none p2) pos) (IT r te tl th):=by
 intro aa s σ H Q I h;refine Subscript_ (bN (he aa s σ H _ I h) λv s1 ⟨x,H1,I1,r1,q1⟩=>?_);refine wpAny_Slice (bN (hl aa s1 σ H1 _ I1 q1) λvl s2 ⟨l,H2,I2,pl,q2⟩=>bN (hu aa s2 σ H2 _ I2 q2) λM G ⟨u,O,I3,pu,q3⟩=>?_);rw[evalPart_none];refine wY ?_;have I4:Inv X aa σ O { G with heap:=G.heap.push { cls:=.type "slice",data:=.fields #[vl,M,.none] } }:=I3.kept (t':=G.toks) λb ob q=>vZ _ q;obtain⟨T,id,hT,ht,hg⟩:=U aa { G with heap:=G.heap.push { cls:=.type "slice",data:=.fields #[vl,M,.none] } } σ O x v vl M l u G.heap.objs.size Q I4 r1 (Heap.IsSliceOf.new ..) pl pu q3;show wq X (subscriptTail e (.Slice lo hi none p2) v (.ref G.heap.objs.size)) (EP X aa σ Q) X.xe { G with heap:=G.heap.push { cls:=.type "slice",data:=.fields #[vl,M,.none] } };exact tail_any (ops:=[.ref G.heap.objs.size,v]) ht hT hg (by with_unfolding_all rfl)
def mh (xs:List V)(lo hi:OI):List V:=(xs.drop (HT.cc xs.length 0 lo)).take (HT.cc xs.length xs.length hi - HT.cc xs.length 0 lo)
def jU (xs:List V)(lo hi:OI):(mh xs lo hi).length<=xs.length:=by
 unfold mh;rw[length_take,length_drop];omega
def FY (K:Frag):V->OI->OI->Hp->VK->Prop:=λx lo hi H Q=>∃a xs,x=.ref a/\fz K H a xs /\
 ¬(HT.cc xs.length 0 lo=0/\HT.cc xs.length xs.length hi=xs.length)/\∀p,H p=none->Q (.ref p) (upd H p (.tup (mh xs lo hi)))
def BB:vz X (FY X.K):=by
 intro aa s σ H x v vl vu lo hi sl Q I O hs pl T h;obtain⟨a,xs,rfl,hx,U,q⟩:=h;cases O
 obtain⟨its,r,M,hz⟩:=I.tuple hx;have G:its.toArray.size=xs.length:=by rw[vH];exact r.length.symm
 refine⟨"tuple",_,PyProof.Rows.slot_tuple_getitem.lookup,M.typeIs,?_⟩;refine HT.iK M hs pl T (by rw[G];exact U) ?_ (by rw[G];exact hz);rw[G];refine⟨.ref s.heap.objs.size,_,I.laid (t':=s.toks) (o:=.tup (mh xs lo hi)) (λb ob q=>vZ _ q) (vT _) ?_,rfl,q _ (I.hok.fresh (vT _))⟩;exact⟨vR (jU xs lo hi) hz,_,(r.drop (HT.cc xs.length 0 lo)).take (HT.cc xs.length xs.length hi - HT.cc xs.length 0 lo),IsTup.new _ _⟩
def DC (K:Frag):R2:=λx y H Q=>∃a b xs ys,x=.ref a/\y=.ref b/\fz K H a xs/\fz K H b ys/\xs≠[]/\xs.length+ys.length<=sizeLine /\
 (ys=[]->Q (.ref a) H)/\(ys≠[]->∀p,H p=none->Q (.ref p) (upd H p (.tup (xs++ys))))
def aO.nil_iff (r:aO xs us):us=[]↔xs=[]:=by
 cases r with
 |nil=>simp
 |cons _ _=>simp
def yX:ci X (binaryOp .Add) (DC X.K):=by
 intro aa s σ H x y v u Q I T U h;obtain⟨a,b,xs,ys,rfl,rfl,ha,hb,hx,hz,q1,q2⟩:=h;cases T
 cases U
 obtain⟨its,M,p1,_⟩:=I.tuple ha;obtain⟨O,G,p2,_⟩:=I.tuple hb;refine HT.yS p1 p2 (λz=>hx (M.nil_iff.mp z)) (λz=>⟨.ref a,H,I,rfl,q1 (G.nil_iff.mp z)⟩) (λz=>?_) (by rw[←M.length,←G.length];exact hz);refine⟨.ref s.heap.objs.size,_,I.laid (t':=s.toks) (o:=.tup (xs++ys)) (λb ob q=>vZ _ q) (vT _) ?_,rfl,q2 (λw=>z (G.nil_iff.mpr w)) _ (I.hok.fresh (vT _))⟩;exact⟨by rw[vA];exact hz,_,M.append G,IsTup.new _ _⟩
end
def uo (n:Nat)(i:Int):Option Nat:=if 0<=i then (if i<n then some i.toNat else none)else if -(n:Int)<=i then some (i+n).toNat else none
def kT {α:Type}(xs:List α)(i:Int):Option α:=(uo xs.length i).bind λj=>xs[j]?
def sv (h:uo n i=some j):seqIndex? i n=some j/\j<n/\-(n:Int)<=i/\i<n:=by
 unfold uo at h;by_cases h0:0<=i
 ·rw[if_pos h0]at h;by_cases h1:i<n
  ·rw[if_pos h1]at h;have e:i.toNat=j:=vK h;exact⟨by rw[seqIndex_of h0 h1,e],by omega,by omega,h1⟩
  ·rw[if_neg h1]at h;cases h
 ·rw[if_neg h0]at h;by_cases h1 : -(n:Int)<=i
  ·rw[if_pos h1]at h;have e:(i+n).toNat=j:=vK h;exact⟨by rw[seqIndex_neg (by omega) h1,e],by omega,h1,by omega⟩
  ·rw[if_neg h1]at h;cases h
def nK {α:Type}{xs:List α}{i:Int}{v:α}(h:kT xs i=some v):∃j,seqIndex? i xs.length=some j/\xs[j]? = some v/\j<xs.length/\-(xs.length:Int)<=i/\i<xs.length:=by
 unfold kT at h;cases e:uo xs.length i with
 |none=>rw[e]at h;cases h
 |some j=>
  rw[e]at h;obtain⟨h1,h2,h3,h4⟩:=sv e;exact⟨j,h1,h,h2,h3,h4⟩
def yY {α:Type}{xs:List α}{j:Nat}{v:α}(h:xs[j]? = some v):kT xs (j:Int)=some v:=by
 have hj:j<xs.length:=(vV h).1;have e:uo xs.length (j:Int)=some j:=by
  unfold uo;rw[if_pos (by omega),if_pos (by omega)];simp
 unfold kT;rw[e];exact h
def iL (b:Expr):Prop:=∀o i,subscripted b false o i=operate [o,i] (getItem o i)
def wx (X:Cx)(r:R2):Prop :=
 ∀(M G:Expr)(aa:AO)(s:Shared)(σ:St)(H:Hp)(x y:V)(v u:Value)(Q:VK),Inv X aa σ H s->aP x v->aP y u->r x y H Q ->
  subscripted G false v u=operate [v,u] (getItem v u)->wq X (subscriptTail M G v u) (EP X aa σ Q) X.xe s
def yZ (X:Cx)(id:String)(r:V->List V->Hp->VK->Prop):Prop :=
 ∀(aa:AO)(s:Shared)(σ:St)(H:Hp)(x:V)(xs:List V)(v:Value)(us:LU)(Q:VK),Inv X aa σ H s->aP x v->aO xs us->r x xs H Q ->
  wq X (call (.builtin id) (v::us)) (EP X aa σ Q) X.xe s
section
variable {X:Cx}{a b:Expr}{ta tb:TE}{pos:Pos}
def wx.or (h:wx X r)(h':wx X r'):wx X (λx y H Q=>r x y H Q∨r' x y H Q):=by
 intro G M aa s σ H x y v u Q I O T q hs;rcases q with q|q
 ·exact h G M aa s σ H x y v u Q I O T q hs
 ·exact h' G M aa s σ H x y v u Q I O T q hs
def yZ.or {id:String}{r G:V->List V->Hp->VK->Prop}(h:yZ X id r)(h':yZ X id G):yZ X id (λx xs H Q=>r x xs H Q∨G x xs H Q):=by
 intro aa s σ H x xs v us Q I M O q;rcases q with q|q
 ·exact h aa s σ H x xs v us Q I M O q
 ·exact h' aa s σ H x xs v us Q I M O q
def sw (G:wx X r)(ha:PE X a ta)(hb:PE X b tb)(hs:iL b):PE X (.Subscript a b pos) (D0 r ta tb):=by
 intro aa s σ H Q I h;exact Subscript_ (By ha hb I h λv u s2 x y H2 M O T q=>G a b aa s2 σ H2 x y v u Q M O T q (hs _ _))
def FZ (K:Frag):R2:=λx y H Q=>∃p xs i v,x=.ref p/\y=.int i/\dZ K H p xs/\kT xs i=some v/\Q v H
def DD (K:Frag):R2:=λx y H Q=>∃p xs i v,x=.ref p/\y=.int i/\fz K H p xs/\kT xs i=some v/\Q v H
def Ga:R2:=λx y H Q=>∃z i c,x=.str z/\y=.int i/\z.length<=sizeLine/\kT z.cps.toList i=some c/\Q (.str ⟨#[c]⟩) H
def za:wx X (FZ X.K):=by
 intro M O aa s σ H x y v u Q I rx ry h hs;obtain⟨p,xs,i,z,rfl,rfl,hq,he,q⟩:=h;cases rx
 obtain⟨t,rfl⟩:=ry;obtain⟨its,r,pl,hz⟩:=I.list hq;obtain⟨j,h1,h2,h3,h4,h5⟩:=nK he;obtain⟨w,U,T⟩:=r.get h2;have hl:=r.length;have hn:=j4;have G:EP X aa σ Q w s:=⟨z,H,I,T,q⟩;by_cases h0:0<=i
 ·have hj:i.toNat=j:=by
   rw[seqIndex_of h0 h5]at h1;exact vK h1
  exact item_listR pl.isList h0 (by omega) (by rw[hj];simpa using U) G hs
 ·have hj:(i+(its.toArray.size:Int)).toNat=j:=by
   rw[seqIndex_neg (by omega) h4]at h1;rw[vH,←hl];exact vK h1
  exact subscriptTail_builtinR (x:=w) pl.isList.typeIs slot_list_getitem.lookup
   (wpAny_getItem_list_neg (Q:=λr s'=>r=w/\EP X aa σ Q r s') pl.isList (by omega) (by rw[vH]<;>omega) (by omega) (by rw[hj];simpa using U) ⟨rfl,G⟩) hs
def rd:wx X (DD X.K):=by
 intro G M aa s σ H x y v u Q I U ry h hs;obtain⟨p,xs,i,z,rfl,rfl,hq,he,q⟩:=h;cases U
 obtain⟨t,rfl⟩:=ry;obtain⟨its,r,pl,hz⟩:=I.tuple hq;obtain⟨j,h1,h2,h3,h4,h5⟩:=nK he;obtain⟨w,ew,O⟩:=r.get h2;have hl:=r.length;have hn:=j4;have T:EP X aa σ Q w s:=⟨z,H,I,O,q⟩;exact subscriptTail_builtinR (x:=w) pl.typeIs slot_tuple_getitem.lookup
  (getItem_tuple (j:=j) (Q:=λr s'=>r=w/\EP X aa σ Q r s') pl (by omega) (by omega) (by rw[vH,←hl];exact h1) (by simpa using ew) ⟨rfl,T⟩) hs
def nL:wx X Ga:=by
 intro G M aa s σ H x y v u Q I O T h hs;obtain⟨z,i,c,rfl,rfl,hz,he,q⟩:=h;obtain⟨t,rfl⟩:=O;obtain⟨t',rfl⟩:=T;obtain⟨j,h1,h2,h3,h4,h5⟩:=nK he;have hl:z.cps.toList.length=z.length:=by simp[Str.length]
 rw[hl]at h1 h4 h5;have hn:=j4;exact tail_any (typeIs_str s z t) slot_str_getitem.lookup (getItem_str (c:=c) (by
  have U:decide (i < -(2 ^ 63:Int))=false:=decide_eq_false (by omega);have e2:decide (i ≥ 2 ^ 63)=false:=decide_eq_false (by omega);rw[U,e2,Bool.or_false]) (by rw[h1];simpa using h2) ⟨.str ⟨#[c]⟩,H,I.tok _,⟨_,rfl⟩,q⟩) hs
def re (its:LU)(n j:Nat)(u:Value):Obj.mapSeq (·.setIfInBounds j u) { cls:=.type "list",data:=.seq its.toArray n }={ cls:=.type "list",data:=.seq (its.set j u).toArray n }:=by
 simp[Obj.mapSeq]
def Inv.lst (I:Inv X aa σ H s)(h:H p=some (.lst xs)):
  ∃(its:LU)(n:Nat),aO xs its/\s.heap.get? p=some { cls:=.type "list",data:=.seq its.toArray n }/\xs.length<=sizeLine:=by
 obtain⟨z,its,n,r,e⟩:=I.hok p _ h;exact⟨its,n,r,e,z⟩
def Inv.lstUpd {aa:AO}{σ:St}{H:Hp}{s:Shared}{p:Addr}{xs ys:List V}{its its':LU}{n G:Nat}{f:Obj->Obj}(I:Inv X aa σ H s)(h:H p=some (.lst xs))
  (M:s.heap.get? p=some { cls:=.type "list",data:=.seq its.toArray n }) (hf:f { cls:=.type "list",data:=.seq its.toArray n }={ cls:=.type "list",data:=.seq its'.toArray G }) (r:aO ys its') (hz:ys.length<=sizeLine) (t:Nat):
  Inv X aa σ (upd H p (.lst ys)) { s with heap:=s.heap.update p f,toks:=t }:=by
 have e:(s.heap.update p f).get? p=some { cls:=.type "list",data:=.seq its'.toArray G }:=by
  rw[Heap.get?_update_self f M (by rw[hf]<;>rfl),hf]
 refine I.write (x:=p) (e:=p) (by rw[h];trivial) (.inl rfl) (λb u hb q=>(Heap.get?_update_other _ _ (Ne.symm hb)).trans q) ⟨_,e⟩ ?_;exact⟨hz,its',G,r,e⟩
def DE:V->V->V->Hp->(Hp->Prop)->Prop:=λo i v H Q=>∃p xs k j,o=.ref p/\i=.int k/\H p=some (.lst xs)/\uo xs.length k=some j/\Q (upd H p (.lst (xs.set j v)))
def wy:Dv X DE:=by
 intro aa s σ H o i v ov iv u Q I T U rv h;obtain⟨p,xs,k,j,rfl,rfl,M,hj,q⟩:=h;cases T
 obtain⟨t,rfl⟩:=U;obtain⟨its,n,r,G,hz⟩:=I.lst M;obtain⟨h1,h2,h3,h4⟩:=sv hj;have hl:=r.length;have hn:=j4;have O:Inv X aa σ (upd H p (.lst (xs.set j v))) { s with heap:=s.heap.update p (Obj.mapSeq (·.setIfInBounds j u)) } :=
  I.lstUpd M G (re its n j u) (r.set rv j) (by rw[length_set];exact hz) s.toks
 by_cases h0:0<=k
 ·have hk:k.toNat=j:=by
   rw[seqIndex_of h0 h4]at h1;exact vK h1
  exact PySem.W.ki_setAt G h0 (by omega) (by rw[vH,←hl];exact h4) (by rw[hk];exact⟨_,O,q⟩)
 ·have hk:(k+(its.toArray.size:Int)).toNat=j:=by
   rw[seqIndex_neg (by omega) h3]at h1;rw[vH,←hl];exact vK h1
  exact PySem.W.ki_setBack G (by omega) (by rw[vH,←hl];exact h3) (by omega) (by rw[hk];exact⟨_,O,q⟩)
def nM (lo hi:OI)(n:Nat):(sliceBounds lo hi none n).1=((HT.cc n 0 lo:Nat):Int)/\(sliceBounds lo hi none n).2.1=((HT.cc n n hi:Nat):Int)/\(sliceBounds lo hi none n).2.2=1:=by
 refine⟨?_,?_,rfl⟩
 ·cases lo with
  |none=>simp[sliceBounds,HT.cc]
  |some i=>
   simp only[sliceBounds,HT.cc,getD_none,show(1:Int) > 0 by decide,if_true];by_cases h:i<0
   ·simp only[h,if_true]<;>omega
   ·simp only[h,if_false]<;>omega
 ·cases hi with
  |none=>simp[sliceBounds,HT.cc]
  |some i=>
   simp only[sliceBounds,HT.cc,getD_none,show(1:Int) > 0 by decide,if_true];by_cases h:i<0
   ·simp only[h,if_true]<;>omega
   ·simp only[h,if_false]<;>omega
def mi (its:LU)(lo hi:OI):slicePick its.toArray lo hi none=((its.drop (HT.cc its.length 0 lo)).take (HT.cc its.length its.length hi - HT.cc its.length 0 lo)).toArray:=by
 obtain⟨h1,h2,h3⟩:=nM lo hi its.toArray.size;unfold slicePick;rw[h1,h2,h3];simp only[sliceRange_one,pick_run,vH]<;>rfl
def Gb (K:Frag):V->OI->OI->Hp->VK->Prop:=λx lo hi H Q=>∃a xs,x=.ref a/\dZ K H a xs/\∀p,H p=none->Q (.ref p) (upd H p (.lst (mh xs lo hi)))
def zc:vz X (Gb X.K):=by
 intro aa s σ H x v vl U lo hi sl Q I O hs pl T h;obtain⟨a,xs,rfl,hx,q⟩:=h;cases O
 obtain⟨its,r,M,hz⟩:=I.list hx;have G:=r.length;refine⟨"list",_,slot_list_getitem.lookup,M.isList.typeIs,?_⟩;refine wpAny_getItem_list_slice M.isList hs pl T .none (by simp) ?_ (by rw[vH]<;>omega)
 rw[mi,←G];refine⟨.ref s.heap.objs.size,_,I.laid (t':=s.toks) (o:=.lst (mh xs lo hi)) (λb ob q=>vZ _ q) (vT _) ?_,rfl,q _ (I.hok.fresh (vT _))⟩;exact⟨vR (jU xs lo hi) hz,_,0,(r.drop (HT.cc xs.length 0 lo)).take (HT.cc xs.length xs.length hi - HT.cc xs.length 0 lo),vY _ rfl⟩
noncomputable def ig:V->Bool
 |.non=>true
 |.bl _=>true
 |.int _=>true
 |.str _=>true
 |_=>false
def yE:V->V->Bool
 |.non,.non=>true
 |.bl a,.bl b=>a == b
 |.bl a,.int b=>(if a then 1 else 0) == b
 |.int a,.bl b=>a == (if b then 1 else 0)
 |.int a,.int b=>a == b
 |.str a,.str b=>a == b
 |_,_=>false
def BC (M:aP y u)(G:aP x v)(T:ig y=true)(O:ig x=true):SeqAt.EqAt A s u v (yE y x):=by
 cases y with
 |non=>
  cases M
  cases x with
  |non=>cases G;exact SeqAt.EqAt.same _
  |bl b=>cases G;exact SeqAt.EqAt.none_bool b
  |int b=>obtain⟨t,rfl⟩:=G;exact SeqAt.EqAt.none_int b t
  |str b=>obtain⟨t,rfl⟩:=G;exact SeqAt.EqAt.none_str b t
  |_=>exact absurd (show false=true from O) uY
 |bl a=>
  cases M
  cases x with
  |non=>cases G;exact SeqAt.EqAt.bool_none a
  |bl b=>cases G;exact SeqAt.EqAt.bool_bool a b
  |int b=>obtain⟨t,rfl⟩:=G;exact SeqAt.EqAt.bool_int a b t
  |str b=>obtain⟨t,rfl⟩:=G;exact SeqAt.EqAt.bool_str a b t
  |_=>exact absurd (show false=true from O) uY
 |int a=>
  obtain⟨t',rfl⟩:=M;cases x with
  |non=>cases G;exact SeqAt.EqAt.int_none a t'
  |bl b=>cases G;exact SeqAt.EqAt.int_bool a t' b
  |int b=>obtain⟨t,rfl⟩:=G;exact SeqAt.EqAt.int_int a t' b t
  |str b=>obtain⟨t,rfl⟩:=G;exact SeqAt.EqAt.int_str a t' b t
  |_=>exact absurd (show false=true from O) uY
 |str a=>
  obtain⟨t',rfl⟩:=M;cases x with
  |non=>cases G;exact SeqAt.EqAt.str_none a t'
  |bl b=>cases G;exact SeqAt.EqAt.str_bool a t' b
  |int b=>obtain⟨t,rfl⟩:=G;exact SeqAt.EqAt.str_int a t' b t
  |str b=>obtain⟨t,rfl⟩:=G;exact SeqAt.EqAt.str_str a t' b t
  |_=>exact absurd (show false=true from O) uY
 |_=>exact absurd (show false=true from T) uY
def rf (x:V)(u:Value):Bool:=match u with
 |.none=>yE .non x
 |.bool b=>yE (.bl b) x
 |.int i _=>yE (.int i) x
 |.str z _=>yE (.str z) x
 |_=>false
def wz (r:aP y u)(f:ig y=true):rf x u=yE y x:=by
 cases y with
 |non=>cases r;rfl
 |bl b=>cases r;rfl
 |int i=>obtain⟨t,rfl⟩:=r;rfl
 |str z=>obtain⟨t,rfl⟩:=r;rfl
 |_=>exact absurd (show false=true from f) uY
theorem iM:∀ {xs:List V}{us:LU},aO xs us->xs.all ig=true->us.any (rf x)=xs.any λy=>yE y x
 |_,_,.nil,_=>rfl
 |y::xs,u::us,.cons r t,f=>by
  rw[all_cons,vD]at f;rw[any_cons,any_cons,wz r f.1,iM t f.2]
theorem gK (G:aP x v)(M:ig x=true):∀ {xs:List V}{us:LU},aO xs us->xs.all ig=true->∀u∈us,SeqAt.EqAt A s u v (rf x u)
 |_,_,.nil,_=>λu hu=>by cases hu
 |y::xs,u::us,.cons r t,f=>λO hu=>by
  rw[all_cons,vD]at f;rcases vP hu with rfl|hu
  ·rw[wz r f.1];exact BC r G f.1 M
  ·exact gK G M t f.2 O hu
def Fg (x:V)(xs:List V):Bool:=xs.any λy=>yE y x
def Hw (K:Frag)(G:Bool):R2:=λx y H Q=>∃p xs,y=.ref p/\(dZ K H p xs∨fz K H p xs)/\ig x=true/\xs.all ig=true/\Q (.bl (if G then !Fg x xs else Fg x xs)) H
def uq:ci X (compareOp .In) (Hw X.K false):=by
 intro aa s σ H x y v u Q I M T h;obtain⟨p,xs,rfl,hq,O,fs,q⟩:=h;cases T
 rcases hq with hq|hq
 ·obtain⟨its,r,pl,hz⟩:=I.list hq;refine SeqAt.in_listAt (rf x) pl.isList (λw G=>gK M O r fs w (by simpa using G)) ⟨.bl _,H,I,rfl,?_⟩;rw[show its.toArray.any (rf x)=its.any (rf x) by simp,iM r fs];exact q
 ·obtain⟨its,r,pl,hz⟩:=I.tuple hq;refine SeqAt.in_tupleAt (rf x) pl (λw G=>gK M O r fs w (by simpa using G)) ⟨.bl _,H,I,rfl,?_⟩;rw[show its.toArray.any (rf x)=its.any (rf x) by simp,iM r fs];exact q
def nN:ci X (compareOp .NotIn) (Hw X.K true):=by
 intro aa s σ H x y v u Q I M T h;obtain⟨p,xs,rfl,hq,O,fs,q⟩:=h;cases T
 rcases hq with hq|hq
 ·obtain⟨its,r,pl,hz⟩:=I.list hq;refine SeqAt.notIn_listAt (rf x) pl.isList (λw G=>gK M O r fs w (by simpa using G)) ⟨.bl _,H,I,rfl,?_⟩;rw[show its.toArray.any (rf x)=its.any (rf x) by simp,iM r fs];exact q
 ·obtain⟨its,r,pl,hz⟩:=I.tuple hq;refine SeqAt.notIn_tupleAt (rf x) pl (λw G=>gK M O r fs w (by simpa using G)) ⟨.bl _,H,I,rfl,?_⟩;rw[show its.toArray.any (rf x)=its.any (rf x) by simp,iM r fs];exact q
def nO:bp X (.builtin "len") (λxs H Q=>∃p ys,xs=[.ref p]/\(dZ X.K H p ys∨fz X.K H p ys)/\Q (.int ys.length) H):=by
 intro aa s σ H xs us Q I r h;obtain⟨p,ys,rfl,hq,q⟩:=h;obtain⟨u,rfl,O⟩:=gA r;cases O
 have hn:=j4;rcases hq with hq|hq
 ·obtain⟨its,M,pl,hz⟩:=I.list hq;have G:=M.length;exact Calls.call_len_list pl.isList (by simp only[vH]<;>omega) ⟨.int ys.length,H,I.tok _,⟨s.toks+1,by rw[vH,G]⟩,q⟩
 ·obtain⟨its,M,pl,hz⟩:=I.tuple hq;have G:=M.length;exact len_tuple pl (by simp only[vH]<;>omega) ⟨.int ys.length,H,I.tok _,⟨s.toks+1,by rw[vH,G]⟩,q⟩
def nP:bp X (.builtin "len") (λxs H Q=>∃z,xs=[.str z]/\z.length<=sizeLine/\Q (.int z.length) H):=by
 intro aa s σ H xs us Q I r h;obtain⟨z,rfl,hz,q⟩:=h;obtain⟨u,rfl,t,rfl⟩:=gA r;have hn:=j4;exact len_str (by omega) ⟨.int z.length,H,I.tok _,⟨_,rfl⟩,q⟩
def bp.or (h:bp X f r)(h':bp X f r'):bp X f (λxs H Q=>r xs H Q∨r' xs H Q):=by
 intro aa s σ H xs us Q I G q;rcases q with q|q
 ·exact h aa s σ H xs us Q I G q
 ·exact h' aa s σ H xs us Q I G q
def nQ:bp X (.type "list") (λxs H Q=>∃p ys,xs=[.ref p]/\(dZ X.K H p ys∨fz X.K H p ys)/\∀l,H l=none->Q (.ref l) (upd H l (.lst ys))):=by
 intro aa s σ H xs us Q I r h;obtain⟨p,ys,rfl,hq,q⟩:=h;obtain⟨u,rfl,rx⟩:=gA r;cases rx
 have O:∀(its:LU),aO ys its->ys.length<=sizeLine->∀(h':Heap)(G:Nat),(∀b o',s.heap.get? b=some o'->h'.get? b=some o') ->
   h'.get? s.heap.objs.size=some { cls:=.type "list",dict:=none,data:=.seq its.toArray G,slots:=#[] }->EP X aa σ Q (.ref s.heap.objs.size) { s with heap:=h' }:=λits M hz h' G kp e=>
  ⟨.ref s.heap.objs.size,_,I.laid (t':=s.toks) kp (vT _) (show bH X.prog X.w _ h' _ (.lst ys)from ⟨hz,its,G,M,e⟩),rfl,q _ (I.hok.fresh (vT _))⟩
 rcases hq with hq|hq
 ·obtain⟨its,M,pl,hz⟩:=I.list hq;have T:=M.length;obtain⟨o,U,hc,n,hd⟩:=pl.isList;exact call_list_seq p (.inl rfl) U hc hd (λh' G kp e=>O its M hz h' G kp e) (by simp only[vH]<;>omega)
 ·obtain⟨its,M,pl,hz⟩:=I.tuple hq;have T:=M.length;obtain⟨o,U,hc,n,hd⟩:=pl;exact call_list_seq p (.inr rfl) U hc hd (λh' G kp e=>O its M hz h' G kp e) (by simp only[vH]<;>omega)
def ml:bp X (.type "tuple") (λxs H Q=>∃p ys,xs=[.ref p]/\((dZ X.K H p ys/\∀l,H l=none->Q (.ref l) (upd H l (.tup ys)))∨(fz X.K H p ys/\Q (.ref p) H))):=by
 intro aa s σ H xs us Q I r h;obtain⟨p,ys,rfl,h⟩:=h;obtain⟨u,rfl,T⟩:=gA r;cases T
 rcases h with⟨hq,q⟩|⟨hq,q⟩
 ·obtain⟨its,G,pl,hz⟩:=I.list hq;have M:=G.length;refine call_tuple_list pl.isList (λh' kp=>?_) (by simp only[vH]<;>omega)
  have O:Inv X aa σ H { s with heap:=h' }:=I.kept (t':=s.toks) kp;have U:Inv X aa σ (upd H h'.objs.size (.tup ys)) { s with heap:=h'.push { cls:=.type "tuple",data:=.seq its.toArray } } :=
   O.laid (t':=s.toks) (λb o e=>vZ _ e) (vT _) (show bH X.prog X.w _ _ _ (.tup ys)from ⟨hz,its,G,IsTup.new _ _⟩)
  exact⟨.ref h'.objs.size,_,U,rfl,q _ (O.hok.fresh (vT _))⟩
 ·obtain⟨its,G,pl,hz⟩:=I.tuple hq;exact call_tuple_same pl ⟨.ref p,H,I,rfl,q⟩
def Hx (K:Frag)(T:String)(x:V)(H:Hp):Prop:=match x with
 |.str _=>T = "str"
 |.int _=>T = "int"
 |.ref p=>(T = "list"/\∃xs,dZ K H p xs)∨(T = "tuple"/\∃o,K.lookup p=some o/\o.cls=.type "tuple"/\o.dict=none) ∨
   (T = "dict"/\((∃bx ob,H p=some (.dK bx ob))∨∃bx,H p=some (.dT bx)))∨(T = "set"/\∃S n,H p=some (.set S n))
 |_=>False
def BD (I:Inv X aa σ H s)(r:aP x v)(ty:Hx X.K T x H):
  s.TypeIs v T/\∀a,v=.ref a->∃ob,s.heap.get? a=some ob/\ob.dict=none:=by
 cases x with
 |str z=>
  obtain⟨t,rfl⟩:=r;cases (show T = "str" from ty)
  exact⟨typeIs_str s z t,λ_ e=>nomatch e⟩
 |int i=>
  obtain⟨t,rfl⟩:=r;cases (show T = "int" from ty)
  exact⟨typeIs_int s i t,λ_ e=>nomatch e⟩
 |ref p=>
  cases r
  rcases ty with⟨rfl,xs,hq⟩|⟨rfl,o,hk,hc,hd⟩|⟨rfl,hk⟩|⟨rfl,S,n,hk⟩
  ·obtain⟨its,_,pl,_⟩:=I.list hq;refine⟨pl.isList.typeIs,λa e=>?_⟩;cases e
   obtain⟨o,n,e,c,hd,_⟩:=pl;exact⟨o,e,hd⟩
  ·refine⟨⟨o,I.kIn p o hk,hc⟩,λa e=>?_⟩;cases e
   exact⟨o,I.kIn _ o hk,hd⟩
  ·have z:∃o,s.heap.get? p=some o/\o.ExactDict:=by
    rcases hk with⟨bx,M,hk⟩|⟨bx,hk⟩
    ·obtain⟨_,_,_,_,_,o,_,_,e,ex,_⟩:=I.hok p _ hk;exact⟨o,e,ex⟩
    ·obtain⟨_,_,_,_,o,_,_,e,ex,_⟩:=I.hok p _ hk;exact⟨o,e,ex⟩
   obtain⟨o,e,ex⟩:=z;refine⟨⟨o,e,ex.1⟩,λa G=>?_⟩;cases G
   exact⟨o,e,ex.2.1⟩
  ·obtain⟨o,_,_,_,e,ex,_⟩:=I.hok p _ hk;refine⟨⟨o,e,ex.1⟩,λa G=>?_⟩;cases G
   exact⟨o,e,ex.2.1⟩
 |_=>exact False.elim ty
def Hy (K:Frag)(T:String)(r:V->List V->Hp->VK->Prop)(to:TE)(t:TA):TE:=λσ H Q=>to σ H λx G=>Hx K T x G/\t σ G λxs H2=>r x xs H2 Q
variable {o e:Expr}{es:QD}{to:TE}{t:TA}{name:Str}{kB fy:Pos}{T id:String}{r:V->List V->Hp->VK->Prop}
def mB (pa:PlainAttrs T)(slot:Slot T name id)(GJ:typeOf (.builtin id)=pure (.type "method_descriptor"))(hm:yZ X id r)(ho:PE X o to)(ha:PA X (e::es) t)
  (M:attributeBase o name X.env (eval o X.env)=eval o X.env:=by rfl)
  (U:((backTo fy (starEach (e::es) X.env)).all (λx=>!x.1) && (backToKw fy (keywordEach [] X.env)).all (λx=>x.1.isSome)
   && decide ((e::es).length+([]:List Keyword).length+(if([]:List Keyword).isEmpty then 0 else 1)<30))=true:=by rfl)
  (O:(kB.endLine == fy.line)=true:=by rfl) (hs:starEach (e::es) X.env=(false,eval e X.env)::starEach es X.env:=by rfl) (G:(backTo fy (starEach es X.env)).any (·.1)=false:=by rfl):
  PE X (.Call (.Attribute o name kB) (e::es) [] fy) (Hy X.K T r to t):=by
 intro aa s σ H Q I h;refine wpAny_Call_method_late M U O rfl (bN (ho aa s σ H _ I h) λv s1 ⟨x,H1,I1,r1,ty,q1⟩=>?_);obtain⟨h1,h2⟩:=BD I1 r1 ty;refine⟨T,id,pa,slot,GJ,h1,h2,?_⟩;have hA:=ha fy aa s1 σ H1 _ I1 q1;rw[hs]at hA ⊢;refine Calls.callWith_builtin (by show(false || (backTo fy (starEach es X.env)).any (·.1))=false;rw[G]<;>rfl) (Calls.evalArgs_plain ?_)
 exact bN hA λus s2 ⟨vs,H2,I2,r2,q2⟩=>hm aa s2 σ H2 x vs v us Q I2 r1 r2 q2
/- xs.append(e),list.index on a module's tuple .. are yZ facts of 06m -/
end
def Gc (X:Cx)(id:String)(r:V->List V->Hp->VK->Prop):Prop :=
 ∀(aa:AO)(s:Shared)(σ:St)(H:Hp)(x:V)(xs:List V)(v:Value)(us:LU)(Q:VK),Inv X aa σ H s->aP x v->aO xs us->r x xs H Q ->
  wq X (call (.builtin id) (v::us)) (EP X aa σ Q) X.xe s
theorem aO.one:∀ {x:V}{us:LU},aO [x] us->∃u,us=[u]/\aP x u
 |_,_,.cons r .nil=>⟨_,rfl,r⟩
theorem aO.two:∀ {x y:V}{us:LU},aO [x,y] us->∃u v,us=[u,v]/\aP x u/\aP y v
 |_,_,_,.cons r (.cons q .nil)=>⟨_,_,rfl,r,q⟩
theorem aO.zero:∀ {us:LU},aO [] us->us=[]
 |_,.nil=>rfl
section
variable {X:Cx}{aa:AO}{σ:St}{H:Hp}{s:Shared}{l b:Addr}{xs ys zs:List V}
def Inv.lset {its its':LU}{n:Nat}{f:AV->AV}{t':Nat}(I:Inv X aa σ H s)(G:H l=some (.lst xs))
  (e:s.heap.get? l=some { cls:=.type "list",data:=.seq its.toArray n }) (hf:f its.toArray=its'.toArray) (M:aO ys its') (hz:ys.length<=sizeLine):
  Inv X aa σ (upd H l (.lst ys)) { s with heap:=s.heap.update l (Obj.mapSeq f),toks:=t' }:=by
 have q:=PySem.IsL.update e f;rw[hf]at q;refine I.write (x:=l) (e:=l) (by rw[G];exact trivial) (.inl rfl) (λb' u hb hu=>(Heap.get?_update_other s.heap (Obj.mapSeq f) (Ne.symm hb)).trans hu) ⟨_,q⟩ ?_;exact⟨hz,its',_,M,q⟩
def Inv.lnew (I:Inv X aa σ H s)(G:aO ys its)(hz:ys.length<=sizeLine):
  Inv X aa σ (upd H s.heap.objs.size (.lst ys)) { s with heap:=s.heap.push { cls:=.type "list",data:=.seq its.toArray },toks:=t' } :=
 I.laid (λ_ _ q=>vZ _ q) (vT _) ⟨hz,its,0,G,vY _ rfl⟩
def Inv.fresh (I:Inv X aa σ H s):H s.heap.objs.size=none:=I.hok.fresh (vT _)
def Inv.lstM (I:Inv X aa σ H s)(G:H l=some (.lst xs)):xs.length<=sizeLine/\∃(its:LU)(n:Nat),aO xs its/\xs.length=its.length/\s.heap.get? l=some { cls:=.type "list",data:=.seq its.toArray n }:=by
 obtain⟨z,its,n,r,e⟩:=I.hok l _ G;exact⟨z,its,n,r,r.length,e⟩
def w9 (h:n<=sizeLine):Builtin.List.listTooLong n=false:=by
 unfold Builtin.List.listTooLong;exact decide_eq_false (by omega)
end
section
variable {X:Cx}
def nR:V->List V->Hp->VK->Prop:=λx vs H Q=>∃l xs y,x=.ref l/\vs=[y]/\H l=some (.lst xs)/\xs.length<sizeLine/\Q .non (upd H l (.lst (xs++[y])))
def j6:Gc X "list.append" nR:=by
 intro aa s σ H x vs v us Q I M O h;obtain⟨l,xs,y,rfl,rfl,G,hz,q⟩:=h;cases M
 obtain⟨u,rfl,T⟩:=O.one;obtain⟨z,its,n,r,hl,e⟩:=I.lstM G;refine call_meets F.slot_list_append ⟨_,e,rfl⟩ F.entry_list_append (F.args_list_append_2 _ _) (PySem.list_append l its.toArray n u (by rw[vH];omega)) ⟨e,?_⟩;refine⟨.non,_,I.lset (its':=its++[u]) G e (by simp) (r.append (.cons T .nil)) ?_,rfl,q⟩;rw[vA,length_singleton];omega
def zd:V->List V->Hp->VK->Prop:=λx vs H Q=>∃l b xs G,x=.ref l/\vs=[.ref b]/\H l=some (.lst xs)/\H b=some (.lst G)/\xs.length+G.length<=sizeLine/\Q .non (upd H l (.lst (xs++G)))
def ur:Gc X "list.extend" zd:=by
 intro aa s σ H x vs v us Q I T U h;obtain⟨l,b,xs,zs,rfl,rfl,O,hB,hz,q⟩:=h;cases T
 obtain⟨u,rfl,ru⟩:=U.one;cases ru
 obtain⟨z,its,n,r,hl,e⟩:=I.lstM O;obtain⟨z2,G,n2,r2,GK,e2⟩:=I.lstM hB;have hsz:its.toArray.size+G.toArray.size<=sizeLine:=by rw[vH,vH];omega
 have M:¬(!its.toArray.isEmpty && Builtin.List.listTooLong (its.toArray.size+G.toArray.size))=true:=by
  rw[w9 hsz,Bool.and_false];exact uY
 refine call_meets F.slot_list_extend ⟨_,e,rfl⟩ F.entry_list_extend (F.args_list_extend_2 _ _)
  (AutoSeq1.list_extend_list_list_0 l its.toArray n b G.toArray n2 M (by rw[vH];omega) (by omega)) ⟨e,e2,?_⟩
 refine⟨.non,_,I.lset (its':=its++G) O e (by simp) (r.append r2) ?_,rfl,q⟩;rw[vA];omega
end
end L2
namespace Att
open PySem PySem.W PySem.Calls PyProof.Rows
def ko:∀(ns:LI)(vs:LU),WellAll P h vs (ns.map WData.int)->IntsAre vs ns:=by
 intro ns;induction ns with
 |nil=>
  intro vs w;rw[List.map_nil]at w;cases w
  exact .nil
 |cons n ns G=>
  intro vs w;rw[uZ]at w;cases w with
  |cons a b=>
   cases a
   exact .cons _ _ (G _ b)
def ut {l:OpenLaw}{n:Nat}(hn:l.most=some n){P:Params}{h:Heap}{args:List WData}{vals:LU}
  (G:l.row.toRowW.claim.pre args=true) (T:WellAll P h vals args):
  ∃a vs ns,vals=[Value.ref a]/\args=[WData.list (ns.map WData.int)]/\h.get? a=some { cls:=.type "list",data:=.seq vs.toArray }/\IntsAre vs ns/\ns.length<=n:=by
 have U:WShape.hasAll [] args [.list .int]=true:=(pre_splitW G).1;have hc:l.pre.holds [] { args:=args }=true:=(pre_splitW G).2;obtain⟨d,r,rfl,h1,h2⟩:=hasAllW_cons U;obtain rfl:=hasAllW_nil h2;obtain⟨xs,rfl,h3⟩:=hasW_list h1;obtain⟨ns,rfl⟩:=items_int h3;have M:ns.length<=n:=by
  unfold OpenLaw.pre at hc;have h4:(WTm.not (.lt (.lit (.int (n:Int))) (.len (.arg 0)))).holds [] { args:=[.list (ns.map .int)] }=true:=by
   have h4:=(holds_andW hc).1;rw[hn]at h4;exact h4
  have h5:=condW_of h4 (w_not (w_lt w_lit (w_len_list (w_arg rfl))));rw[vI]at h5;refine Nat.le_of_not_lt λq=>?_;have q':(n:Int)<((ns.length:Nat):Int):=by omega
  first
   | (rw[decide_eq_true q']at h5;exact absurd h5 (by decide))
   | (simp at h5;omega)
 cases T with
 |cons w1 w2=>
  cases w2
  cases w1 with
  |list ho O=>exact⟨_,_,ns,rfl,rfl,ho,ko ns _ O,M⟩
def uu (l:OpenLaw)(args:List WData):l.row.toRowW.claim.post args (.bool true) args=true :=
 postW_of (r:=l.row.toRowW) (X:=(true == true))
  (show WShape.has [] (.bool true) .bool=true by first|rfl|decide|simp[WShape.has,WShape.arms,WShape.armsAll])
  (show(WTm.eq .res (.lit (.bool true))).value [] { args:=args,res:=some (.bool true),after:=args }=some (.bool (true == true))from w_eq_bool (w_res rfl) w_lit) rfl
def pf {l:OpenLaw}{n:Nat}{q:Program}{O:LS}{XP:SV->Heap->Prop}{YP:World->Heap->Prop}{d:DefRec}
  (hn:l.most=some n) (GL:d.params.defaults=[])
  (call:∀(w:World)(s₀ M:Shared)(mg mb:SV)(U:Addr)(o:Obj)(pm cd doc:Value)(a:Addr)(vs:LU)(ns:LI),
   Ground q O [] XP w s₀ mg mb M.heap->YP w M.heap ->
   M.heap.get? U=some o->o.data=.func (docDef d.name d.params d.body d.scope pm cd doc)->M.heap.CodeRec cd d.name->mg d.name=some (.ref U) ->
   M.heap.get? a=some { cls:=.type "list",data:=.seq vs.toArray }->IntsAre vs ns->ns.length<=n->M.gens=#[] ->
   codeAny (model l.prog w) callerA (.call (.ref U) ⟨[.ref a],[]⟩) (λr s'=>r=.ok (.ret (.bool true))/\OldK M.heap s'.heap/\s'.os=M.os/\AllBare s'.gens) M):
  WalkO q O XP YP l.row.toRowW d [] (λf vs=>PySem.call f vs):=by
 intro w s₀ M mg mb G Y U o pm cd doc dV kV ho hd CF hD hmg hg args vals as hpre hlay hrd hwl hlo;obtain rfl:dV=.none:=Dflts.none hD GL;obtain rfl:kV=.none:=Dflts.noKw hD;obtain⟨a,vs,ns,rfl,rfl,CG,T,lZ⟩:=ut hn hpre hwl;refine enter_call (codeAny_mono (call w s₀ M mg mb U o pm cd doc a vs ns G Y ho (fd_plain hd) CF hmg CG T lZ hg) λr s' hq=>?_);obtain⟨rfl,h2,h3,h4⟩:=hq;exact⟨.inl ⟨.bool true,.bool true,[],rfl,λ_=>rfl,.bool true,uu l _,λ_=>⟨List.Pairwise.nil,λ_ hm=>(nomatch hm)⟩⟩,h2,h3,h4⟩
section
variable {prog:Program}{w:World}{A:Around}{E:QV}{s:Shared}{K:Frag}
end
end Att
namespace L2
open PySem PySem.Spec PyProof.Rows
theorem fO:∀ {vs:LU}{ns:LI},IntsAre vs ns->aO (ns.map V.int) vs
 |_,_,.nil=>.nil
 |_,_,.cons n t h=>.cons ⟨t,rfl⟩ (fO h)
noncomputable def dB (s:Stmt):Arguments:=match s with
 |.FunctionDef _ a _ _ _ _ _ _ _ _=>a
 |_=>{ posonlyargs:=[],args:=[],vararg:=none,kwonlyargs:=[],kw_defaults:=[],kwarg:=none,defaults:=[] }
noncomputable def bK (s:Stmt):List Stmt:=match s with
 |.FunctionDef _ _ b _ _ _ _ _ _ _=>b
 |_=>[]
noncomputable def aD (s:Stmt):Scope:=match s with
 |.FunctionDef _ _ _ _ _ _ sc _ _ _=>sc
 |_=>{ kind:=.function,names:=[],isGenerator:=false,isCoroutine:=false }
abbrev rg:A4:=λ_ _ _ _ _ _=>False
abbrev E0:XK:=λ_ _ _=>False
def DG:qZ rg X E0:=λ_ _ _ _ _ _ _ h=>h.elim
structure CH (K:Frag)(x qual:Str)(st:Stmt)(f:Addr)(fd:FuncData):Prop where
 ex:∃(oc:Value)(od:Option Addr)(kV doc pm:Value)(an:Option Addr)(cC ct:Value)(kK:Array (Option Value)),
  fd=fnOf x qual (dB st) (bK st) (aD st) .none kV doc pm an cC ct/\K.lookup f=some ⟨oc,od,.func fd,kK⟩/\PySem.W.codeIn K cC qual=true
 kp:PySem.W.keepIn K (.ref f)=true
section
variable {P:Program}{w:World}{K:Frag}{mg:SV}{base:Heap}
def CH.ok {x qual:Str}{st:Stmt}{f:Addr}{fd:FuncData}{N ps:LS}{k:Nat}{sp:Sp}(F:CH K x qual st f fd)(S:FnScope N ps (aD st))(len:∀vs H Q E,sp vs H Q E->vs.length=ps.length)
  (G:∀(cC:Value)(A:Around)(outer:List Env)(s:Shared)(H:Hp)(vs:List V)(Q:VK)(E:XK),dY k (A.deeper (envOfC qual (aD st) s.heap.objs.size f cC))->sp vs H Q E ->
   ∃t,me (kn rg P w K mg base N qual (aD st) f cC A outer s H E).nox (bK st) t/\t { nx:=λ_ H'=>Q .non H',rt:=Q } (gB N vs) H):my P w K mg base rg (k+1) f fd ps sp:=by
 obtain⟨oc,od,kV,doc,pm,an,cC,ct,kK,rfl,T,M⟩:=F.ex;refine A5 T M S len λA outer s H vs Q E U O=>?_;obtain⟨t,h,q⟩:=G cC A outer s H vs Q E U O;exact⟨t,h.nox,q⟩
def CH.binds {x qual:Str}{st:Stmt}{f:Addr}{fd:FuncData}{ps:LS}(F:CH K x qual st f fd)
  (h:∀(kV doc pm:Value)(an:Option Addr)(cC ct:Value)(us:LU),us.length=ps.length->bindArgs (fnOf x qual (dB st) (bK st) (aD st) .none kV doc pm an cC ct) ⟨us,[]⟩=pure (ps.zip us)):m3 K fd ps []:=by
 obtain⟨oc,od,kV,doc,pm,an,cC,ct,kK,rfl,M,G⟩:=F.ex;exact .all (h kV doc pm an cC ct)
def BE {x qual:Str}{st:Stmt}{f:Addr}{oc:Value}{od an:Option Addr}{kK:Array (Option Value)}{kV doc pm cC ct:Value}(l:K.lookup f=some ⟨oc,od,.func (fnOf x qual (dB st) (bK st) (aD st) .none kV doc pm an cC ct),kK⟩)
  (c:PySem.W.codeIn K cC qual=true) (k:PySem.W.keepIn K (.ref f)=true):CH K x qual st f (fnOf x qual (dB st) (bK st) (aD st) .none kV doc pm an cC ct):=⟨⟨oc,od,kV,doc,pm,an,cC,ct,kK,rfl,l,c⟩,k⟩
end
def aJ (H H':Hp):Prop:=∀b o,H b=some o->H' b=some o
def aJ.refl (H:Hp):aJ H H:=λ_ _ h=>h
def aJ.trans (a:aJ H H1)(b:aJ H1 H2):aJ H H2:=λc o h=>b c o (a c o h)
def aJ.free (e:aJ H H')(h:H' l=Option.none):H l=Option.none:=by
 cases q:H l with
 |none=>rfl
 |some o=>
  rw[e l o q]at h;cases h
def aJ.seq {K:Frag}{H H':Hp}{a:Addr}{xs:List V}(e:aJ H H')(h:dZ K H a xs):dZ K H' a xs:=by
 rcases h with (h|⟨o,h⟩)|h
 ·exact .inl (.inl (e _ _ h))
 ·exact .inl (.inr ⟨o,e _ _ h⟩)
 ·exact .inr h
section
variable {κ:Type}[DecidableEq κ]
noncomputable def BF (bx:List (κ×V))(k:κ):Option V:=(bx.find? λG=>decide (G.1=k)).map (·.2)
def oW.getD (r:oW o u)(G:aP d d'):aP (o.getD d) (u.getD d'):=by
 cases o with
 |none=>cases u with
  |none=>exact G
  |some _=>exact(show False from r).elim
 |some _=>cases u with
  |none=>exact(show False from r).elim
  |some _=>exact r
def KV.length (r:KV bx vs):bx.length=vs.length:=Paired.length r
end
def DH (H:Hp)(a:Addr)(y:V)(r:Option V):Prop :=
 (∃bx k ob,Rd H a (.dK bx ob)/\y=kV k/\r=BF bx k)∨∃bx k b,Rd H a (.dT bx)/\y=.ref b/\H b=some (.tup (k.map kV))/\r=BF bx k
def DH.t (e:H a=some (.dT bx))(G:H b=some (.tup (k.map kV))):DH H a (.ref b) (BF bx k):=.inr ⟨bx,k,b,.inl e,rfl,G,rfl⟩
end L2
namespace DL
open PySem L2
set_option linter.all false
abbrev St:=L2.St
inductive D where
 |non|bl (b:Bool)|int (i:Int)|str (x:Str)|ty (n:String)|tup (ds:List D)|lst (ds:List D)
  |dk (ks:List iI) (vs:List D)|dt (ks:List (List iI)) (vs:List D)
abbrev LD:=List D
abbrev LV:=List V
abbrev LK:=List iI
abbrev OB:=Option (D×Bool)
mutual
inductive Is (K:Frag)(H:Hp):V->D->Prop where
 |non:Is K H .non .non
 |bl (b:Bool):Is K H (.bl b) (.bl b)
 |int (i:Int):Is K H (.int i) (.int i)
 |str (x:Str):Is K H (.str x) (.str x)
 |ty (n:String):Is K H (.ty n) (.ty n)
 |tup {a:Addr}{vs:List V}{ds:List D}(h:fz K H a vs) (hs:IsL K H vs ds):Is K H (.ref a) (.tup ds)
 |lst {a:Addr}{vs:List V}{ds:List D}(h:dZ K H a vs) (hs:IsL K H vs ds):Is K H (.ref a) (.lst ds)
 |dk {a:Addr}{ks:List iI}{vs:List V}{ds:List D}{ob:Obj}(h:H a=some (.dK (ks.zip vs) ob)) (hl:ks.length=vs.length) (hs:IsL K H vs ds):Is K H (.ref a) (.dk ks ds)
 |dt {a:Addr}{ks:List (List iI)}{vs:List V}{ds:List D}(h:H a=some (.dT (ks.zip vs))) (hl:ks.length=vs.length) (hs:IsL K H vs ds):Is K H (.ref a) (.dt ks ds)
inductive IsL (K:Frag)(H:Hp):List V->List D->Prop where
 |nil:IsL K H [] []
 |cons {v:V}{d:D}{vs:List V}{ds:List D}(h:Is K H v d) (hs:IsL K H vs ds):IsL K H (v::vs) (d::ds)
end
mutual
def aZ:D->Bool
 |.lst _=>false
 |.dk _ _=>false
 |.dt _ _=>false
 |.tup ds=>bA ds
 |_=>true
def bA:LD->Bool
 |[]=>true
 |d::ds=>aZ d && bA ds
end
@[simp] def CT:aZ .non=true:=by simp only[aZ]
@[simp] def DI (b:Bool):aZ (.bl b)=true:=by simp only[aZ]
@[simp] def CU (i:Int):aZ (.int i)=true:=by simp only[aZ]
@[simp] def CV (x:Str):aZ (.str x)=true:=by simp only[aZ]
@[simp] def DJ (x:String):aZ (.ty x)=true:=by simp only[aZ]
@[simp] def uv (ds:LD):aZ (.tup ds)=bA ds:=by rw[aZ]
@[simp] def CW (ds:LD):aZ (.lst ds)=false:=by rw[aZ]
@[simp] def DK (ks:LK)(ds:LD):aZ (.dk ks ds)=false:=by rw[aZ]
@[simp] def DM (ks:List LK)(ds:LD):aZ (.dt ks ds)=false:=by rw[aZ]
@[simp] def BG:bA []=true:=by rw[bA]
@[simp] def A6 (d:D)(ds:LD):bA (d::ds)=(aZ d && bA ds):=by rw[bA]
section
variable {K:Frag}{H H':Hp}
mutual
theorem Is.keep (G:∀a vs,fz K H a vs->fz K H' a vs)(M:∀a vs,dZ K H a vs->dZ K H' a vs)(O:∀a bx ob,H a=some (.dK bx ob)->H' a=some (.dK bx ob))(T:∀a bx,H a=some (.dT bx)->H' a=some (.dT bx)):∀ {v:V}{d:D},Is K H v d->Is K H' v d
 |_,_,.non=>.non
 |_,_,.bl b=>.bl b
 |_,_,.int i=>.int i
 |_,_,.str x=>.str x
 |_,_,.ty x=>.ty x
 |_,_,.tup h hs=>.tup (G _ _ h) (IsL.keep G M O T hs)
 |_,_,.lst h hs=>.lst (M _ _ h) (IsL.keep G M O T hs)
 |_,_,.dk h hl hs=>.dk (O _ _ _ h) hl (IsL.keep G M O T hs)
 |_,_,.dt h hl hs=>.dt (T _ _ h) hl (IsL.keep G M O T hs)
theorem IsL.keep (G:∀a vs,fz K H a vs->fz K H' a vs)(M:∀a vs,dZ K H a vs->dZ K H' a vs)(O:∀a bx ob,H a=some (.dK bx ob)->H' a=some (.dK bx ob))(T:∀a bx,H a=some (.dT bx)->H' a=some (.dT bx)):∀ {vs:LV}{ds:LD},IsL K H vs ds->IsL K H' vs ds
 |_,_,.nil=>.nil
 |_,_,.cons h hs=>.cons (Is.keep G M O T h) (IsL.keep G M O T hs)
end
mutual
theorem Is.keepT (G:∀a vs,fz K H a vs->fz K H' a vs):∀ {v:V}{d:D},Is K H v d->aZ d=true->Is K H' v d
 |_,_,.non,_=>.non
 |_,_,.bl b,_=>.bl b
 |_,_,.int i,_=>.int i
 |_,_,.str x,_=>.str x
 |_,_,.ty x,_=>.ty x
 |_,_,.tup h hs,n=>.tup (G _ _ h) (IsL.keepT G hs (by simpa using n))
 |_,_,.lst h hs,n=>by simp at n
 |_,_,.dk h hl hs,n=>by simp at n
 |_,_,.dt h hl hs,n=>by simp at n
theorem IsL.keepT (G:∀a vs,fz K H a vs->fz K H' a vs):∀ {vs:LV}{ds:LD},IsL K H vs ds->bA ds=true->IsL K H' vs ds
 |_,_,.nil,_=>.nil
 |_,_,.cons h hs,n=>by
  simp at n;exact .cons (Is.keepT G h n.1) (IsL.keepT G hs n.2)
end
def aL (e:aJ H H')(h:fz K H a xs):fz K H' a xs:=by
 rcases h with (h|⟨o,h⟩)|h
 ·exact .inl (.inl (e _ _ h))
 ·exact .inl (.inr ⟨o,e _ _ h⟩)
 ·exact .inr h
def Is.mono (h:Is K H v d)(e:aJ H H'):Is K H' v d:=h.keep (λ_ _=>aL e) (λ_ _=>e.seq) (λ_ _ _ q=>e _ _ q) λ_ _ q=>e _ _ q
def IsL.mono (h:IsL K H v d)(e:aJ H H'):IsL K H' v d:=h.keep (λ_ _=>aL e) (λ_ _=>e.seq) (λ_ _ _ q=>e _ _ q) λ_ _ q=>e _ _ q
theorem IsL.length:∀ {vs:LV}{ds:LD},IsL K H vs ds->vs.length=ds.length
 |_,_,.nil=>rfl
 |_,_,.cons _ t=>congrArg (· + 1) t.length
theorem IsL.get:∀ {vs:LV}{ds:LD}{i:Nat}{d:D},IsL K H vs ds->ds[i]? = some d->∃v,vs[i]? = some v/\Is K H v d
 |_,_,_,_,.nil,e=>by simp at e
 |_,_,0,_,.cons h _,e=>by simp at e;subst e;exact⟨_,rfl,h⟩
 |_,_,i+1,d,.cons _ t,e=>by
  obtain⟨u,h1,h2⟩:=t.get (i:=i) (d:=d) (by simpa using e);exact⟨u,by simpa using h1,h2⟩
theorem IsL.append:∀ {vs G:LV}{ds es:LD},IsL K H vs ds->IsL K H G es->IsL K H (vs++G) (ds++es)
 |_,_,_,_,.nil,s=>s
 |_,_,_,_,.cons r t,s=>.cons r (t.append s)
theorem IsL.take:∀ {vs:LV}{ds:LD}(n:Nat),IsL K H vs ds->IsL K H (vs.take n) (ds.take n)
 |_,_,0,_=>by simpa using IsL.nil
 |_,_,_+1,.nil=>.nil
 |_,_,n+1,.cons r t=>.cons r (t.take n)
theorem IsL.drop:∀ {vs:LV}{ds:LD}(n:Nat),IsL K H vs ds->IsL K H (vs.drop n) (ds.drop n)
 |_,_,0,r=>r
 |_,_,_+1,.nil=>.nil
 |_,_,n+1,.cons _ t=>t.drop n
theorem IsL.set (h:Is K H v d):∀ {vs:LV}{ds:LD}(i:Nat),IsL K H vs ds->IsL K H (vs.set i v) (ds.set i d)
 |_,_,_,.nil=>.nil
 |_,_,0,.cons _ t=>.cons h t
 |_,_,i+1,.cons r t=>.cons r (IsL.set h i t)
def IsL.flat {vs:LV}{ns:LI}(h:vs=ns.map V.int):IsL K H vs (ns.map D.int):=by
 subst h;induction ns with
 |nil=>exact .nil
 |cons n ns G=>exact .cons (.int n) G
end
structure Ext (B N H H':Hp):Prop where
 hh:aJ H H'
 bn:aJ B N
 nh:aJ N H'
 new:∀a o,N a=some o->B a=some o∨H a=none
def Ext.refl (h:aJ B H):Ext B B H H:=⟨.refl _,.refl _,h,λ_ _ e=>.inl e⟩
def Ext.trans (x:Ext B N H H1)(y:Ext N N2 H1 H2):Ext B N2 H H2 :=
 ⟨x.hh.trans y.hh,x.bn.trans y.bn,y.nh,λa o e=>(y.new a o e).elim (λq=>x.new a o q) λq=>.inr (x.hh.free q)⟩
def Ext.laid (h:aJ B H)(G:H p=none):Ext B (upd B p o) H (upd H p o):=by
 have M:B p=none:=h.free G;refine⟨λa u e=>?_,λa u e=>?_,λa u e=>?_,λa u e=>?_⟩
 ·rw[aE (λq=>by subst q;rw[G]at e;cases e)];exact e
 ·rw[aE (λq=>by subst q;rw[M]at e;cases e)];exact e
 ·by_cases q:a=p
  ·subst q;rw[a8]at e ⊢;exact e
  ·rw[aE q]at e ⊢;exact h _ _ e
 ·by_cases q:a=p
  ·subst q;exact .inr G
  ·rw[aE q]at e;exact .inl e
def Ext.grow (h:aJ B H)(hh:aJ H H'):Ext B B H H':=⟨hh,.refl _,h.trans hh,λ_ _ e=>.inl e⟩
abbrev Env:=List OB
abbrev FE:=Env->OB
abbrev FA:=Env->Option LD
abbrev FT:=Env->Option Bool
def CY (K:Frag)(H N:Hp)(v:V):D->Prop
 |.tup ds=>∃(a:Addr)(vs:LV),v=.ref a/\fz K N a vs/\IsL K N vs ds/\∀(i:Nat)(es:LD),ds[i]? = some (.lst es)->∃(b:Addr)(us:LV),vs[i]? = some (.ref b)/\H b=none/\N b=some (.lst us)/\IsL K N us es
 |d=>∃(a:Addr)(vs:LV)(ds:LD),v=.ref a/\d=.lst ds/\H a=none/\N a=some (.lst vs)/\IsL K N vs ds
def CY.back (h:CY K H' N v d)(e:aJ H H'):CY K H N v d:=by
 cases d
 case tup=>exact let ⟨a,vs,q,y,z,r⟩:=h;⟨a,vs,q,y,z,λi es g=>let ⟨b,us,G,M,O⟩:=r i es g;⟨b,us,G,e.free M,O⟩⟩
 all_goals exact let ⟨a,vs,ds,q,y,z,r⟩:=h;⟨a,vs,ds,q,y,e.free z,r⟩
noncomputable def ph:LS:=["in_order","has_seal","is_first_death","bases_by"]
def BH (x:Str):Str:=x ++ ".<locals>." ++ "<lambda>"
def Tb (K:Frag)(B:Hp):Prop:=∀x∈ph,∀c P,PySem.W.tabIn K x=some (c,P)->B P=some (.tbl (BH x))
def Tb.mono (h:Tb K B)(e:aJ B B'):Tb K B':=λx hx c P q=>e _ _ (h x hx c P q)
structure dz (K:Frag)(B:Hp)(σ:St)(ρ:Env):Prop where
 tb:Tb K B
 at':∀(i:Nat)(d:D)(b:Bool),ρ[i]? = some (some (d,b))->∃v,σ[i]? = some (some v)/\Is K B v d
def dz.mono (h:dz K B σ ρ)(e:aJ B B'):dz K B' σ ρ:=⟨h.tb.mono e,λi d b q=>let ⟨v,h1,h2⟩:=h.at' i d b q;⟨v,h1,h2.mono e⟩⟩
def Fin (K:Frag)(B H:Hp)(d:D)(b:Bool)(Q:VK):Prop:=∀(v:V)(H' N:Hp),Ext B N H H'->Is K N v d->(b=true->CY K H N v d)->Q v H'
def tD (K:Frag)(f:FE):TE:=λσ H Q=>∃(B:Hp)(ρ:Env)(d:D)(b:Bool),aJ B H/\dz K B σ ρ/\f ρ=some (d,b)/\Fin K B H d b Q
def nU (K:Frag)(f:FT):TT:=λσ H Q=>∃(B:Hp)(ρ:Env)(c:Bool),aJ B H/\dz K B σ ρ/\f ρ=some c/\∀H',aJ H H'->Q c H'
def DN (K:Frag)(f:FA):TA:=λσ H Q=>∃(B:Hp)(ρ:Env)(ds:LD),aJ B H/\dz K B σ ρ/\f ρ=some ds/\∀(vs:LV)(H' N:Hp),Ext B N H H'->IsL K N vs ds->Q vs H'
def rD (K:Frag)(M:D->D->OB):R2:=λx y H Q=>∃(B:Hp)(dx G d:D)(b:Bool),aJ B H/\Is K B x dx/\Is K B y G/\M dx G=some (d,b)/\Fin K B H d b Q
def Ge (K:Frag)(G:D->OB):V->Hp->VK->Prop:=λx H Q=>∃(B:Hp)(dx d:D)(b:Bool),aJ B H/\Is K B x dx/\G dx=some (d,b)/\Fin K B H d b Q
def uw (K:Frag)(G:LD->OB):LV->Hp->VK->Prop:=λxs H Q=>∃(B:Hp)(ds:LD)(d:D)(b:Bool),aJ B H/\IsL K B xs ds/\G ds=some (d,b)/\Fin K B H d b Q
def Fin.one (h:Fin K B H d false Q)(s:aJ B H)(i:Is K B v d):Q v H:=h v H B (.refl s) i (by simp)
def Fin.into (h:Fin K B H d b Q)(x:Ext B N H H1):Fin K N H1 d b Q:=λv H' N' y i G=>h v H' N' (x.trans y) i λe=>(G e).back x.hh
@[simp] def fC (d:D):FE:=λ_=>some (d,false)
@[simp] noncomputable def ag (i:Nat):FE:=λρ=>match ρ[i]? with|some (some (d,_))=>some (d,false)|_=>none
@[simp] noncomputable def f2 (G:D->D->OB)(M O:FE):FE:=λρ=>(M ρ).bind λx=>(O ρ).bind λy=>G x.1 y.1
@[simp] noncomputable def f1 (G:D->OB)(M:FE):FE:=λρ=>(M ρ).bind λx=>G x.1
@[simp] def ak:FA:=λ_=>some []
@[simp] noncomputable def ae (G:FE)(M:FA):FA:=λρ=>(G ρ).bind λx=>(M ρ).bind λxs=>some (x.1::xs)
@[simp] def fA (G:LD->OB)(M:FA):FE:=λρ=>(M ρ).bind G
def BI (h:tD K (ag i) σ H Q):∃v,σ[i]? = some (some v)/\Q v H:=by
 obtain⟨B,ρ,d,b,s,r,e,q⟩:=h;unfold ag at e;split at e
 ·rename_i d' b' G;cases e
  obtain⟨v,h1,h2⟩:=r.at' i _ _ G;exact⟨v,h1,q.one s h2⟩
 ·cases e
def ze (h:tD K (f2 op fa fb) σ H Q):tD K fa σ H λx O=>tD K fb σ O λy H2=>rD K op x y H2 Q:=by
 obtain⟨B,ρ,d,b,s,r,e,q⟩:=h;obtain⟨x,ex,e⟩:=oX e;obtain⟨y,T,e⟩:=oX e;refine⟨B,ρ,x.1,x.2,s,r,ex,λv O N G i1 _=>⟨N,ρ,y.1,y.2,G.nh,r.mono G.bn,T,λv2 H2 U M i2 _=>⟨U,x.1,y.1,d,b,M.nh,i1.mono M.bn,i2,e,?_⟩⟩⟩;exact q.into (G.trans M)
def Gf (h:tD K (f1 op fa) σ H Q):tD K fa σ H λx G=>Ge K op x G Q:=by
 obtain⟨B,ρ,d,b,s,r,e,q⟩:=h;obtain⟨x,ex,e⟩:=oX e;exact⟨B,ρ,x.1,x.2,s,r,ex,λv G N M i1 _=>⟨N,x.1,d,b,M.nh,i1,e,q.into M⟩⟩
def zf (h:tD K (fA op fa) σ H Q):DN K fa σ H λxs G=>uw K op xs G Q:=by
 obtain⟨B,ρ,d,b,s,r,e,q⟩:=h;obtain⟨x,ex,e⟩:=oX e;exact⟨B,ρ,x,s,r,ex,λv G N M i1=>⟨N,x,d,b,M.nh,i1,e,q.into M⟩⟩
def zg (h:DN K ak σ H Q):Q [] H:=by
 obtain⟨B,ρ,ds,s,r,e,q⟩:=h;cases e
 exact q [] H B (.refl s) .nil
def wA (h:DN K (ae fa fr) σ H Q):tD K fa σ H λx M=>DN K fr σ M λxs H2=>Q (x::xs) H2:=by
 obtain⟨B,ρ,ds,s,r,e,q⟩:=h;obtain⟨x,ex,e⟩:=oX e;obtain⟨y,T,e⟩:=oX e;cases e
 exact⟨B,ρ,x.1,x.2,s,r,ex,λv M N G i1 _=>⟨N,ρ,y,G.nh,r.mono G.bn,T,λvs H2 U O i2=>q _ H2 U (G.trans O) (.cons (i1.mono O.bn) i2)⟩⟩
@[simp] noncomputable def br (f:FE):FT:=λρ=>match f ρ with|some (.bl c,_)=>some c|_=>none
@[simp] noncomputable def jV (f g:FT):FT:=λρ=>match f ρ with|some true=>g ρ|some false=>some false|none=>none
@[simp] noncomputable def cj (f g:FT):FT:=λρ=>match f ρ with|some true=>some true|some false=>g ρ|none=>none
@[simp] def bV (f:FT):FT:=λρ=>(f ρ).map (!·)
open Classical in
noncomputable def cg (H:Hp)(P:Addr->Prop):Hp:=λa=>if P a then none else H a
def bO (h:¬P a):cg H P a=H a:=by unfold cg;rw[if_neg h]
def rh (h:P a):cg H P a=none:=by unfold cg;rw[if_pos h]
def fP (h:cg H P a=some o):¬P a/\H a=some o:=by
 by_cases q:P a
 ·rw[rh q]at h;cases h
 ·rw[bO q]at h;exact⟨q,h⟩
def bi:aJ (cg H P) H:=λ_ _ e=>(fP e).2
def cQ (e:∀a o,H a=some o->¬P a->H' a=some o/\¬P' a):aJ (cg H P) (cg H' P'):=λa o q=>by
 obtain⟨h1,h2⟩:=fP q;obtain⟨h3,h4⟩:=e a o h2 h1;rw[bO h4];exact h3
noncomputable def join (N N':Hp):Hp:=λa=>match N a with|some o=>some o|none=>N' a
def cm:aJ N (join N N'):=λa o e=>by unfold join;rw[e]
def cz (e:N a=none):join N N' a=N' a:=by unfold join;rw[e]
def own (σ:St)(ρ:Env)(a:Addr):Prop:=∃(i:Nat)(d:D),ρ[i]? = some (some (d,true))/\σ[i]? = some (some (V.ref a))
inductive Bx (K:Frag)(C:Hp):HO->D->Prop where
 |lst {vs:List V}{ds:List D}(h:IsL K C vs ds):Bx K C (.lst vs) (.lst ds)
 |dk {ks:List iI}{vs:List V}{ds:List D}(hl:ks.length=vs.length) (h:IsL K C vs ds) {ob:Obj}:Bx K C (.dK (ks.zip vs) ob) (.dk ks ds)
 |dt {ks:List (List iI)}{vs:List V}{ds:List D}(hl:ks.length=vs.length) (h:IsL K C vs ds):Bx K C (.dT (ks.zip vs)) (.dt ks ds)
def Bx.mono (h:Bx K C o d)(e:aJ C C'):Bx K C' o d:=by
 cases h with
 |lst h=>exact .lst (h.mono e)
 |dk hl h=>exact .dk hl (h.mono e)
 |dt hl h=>exact .dt hl (h.mono e)
def Bx.is (h:Bx K C o d)(e:C a=some o):Is K C (.ref a) d:=by
 cases h with
 |lst h=>exact .lst (dZ.of e) h
 |dk hl h=>exact .dk e hl h
 |dt hl h=>exact .dt e hl h
structure cb (K:Frag)(B0 H0 N H:Hp)(σ:St)(ρ:Env):Prop where
 bh:aJ B0 H0
 tb:Tb K B0
 ext:Ext B0 N H0 H
 len:ρ.length=σ.length
 sh:∀(i:Nat)(d:D),ρ[i]? = some (some (d,false))->∃v,σ[i]? = some (some v)/\Is K (cg N (own σ ρ)) v d
 ow:∀(i:Nat)(d:D),ρ[i]? = some (some (d,true))->∃(a:Addr)(o:HO),σ[i]? = some (some (V.ref a))/\N a=some o/\H0 a=none/\Bx K (cg N (own σ ρ)) o d
 inj:∀(i j:Nat)(a:Addr)(d e:D),ρ[i]? = some (some (d,true))->ρ[j]? = some (some (e,true))->σ[i]? = some (some (V.ref a))->σ[j]? = some (some (V.ref a))->i=j
def nV (K:Frag)(B0 H0 H:Hp)(σ:St)(ρ:Env):Prop:=∃N,cb K B0 H0 N H σ ρ
section
variable {K:Frag}{B0 H0 N H H':Hp}{σ:St}{ρ:Env}
def cb.owL (s:cb K B0 H0 N H σ ρ)(i:Nat)(d:D)(q:ρ[i]? = some (some (.lst es,true)))(hd:d=.lst es:=by rfl):∃(a:Addr)(vs:LV)(ds:LD),d=.lst ds/\σ[i]? = some (some (V.ref a))/\N a=some (.lst vs)/\H0 a=none/\IsL K (cg N (own σ ρ)) vs ds:=by
 obtain⟨a,o,h1,h2,h3,h4⟩:=s.ow i _ q;cases h4 with
 |lst h4=>exact⟨a,_,es,hd,h1,h2,h3,h4⟩
def boxed:HO->Prop
 |.lst _|.dK _ _|.dT _=>True
 |_=>False
def Bx.boxed (h:Bx K C o d):boxed o:=by cases h<;>exact trivial
def cb.owned (s:cb K B0 H0 N H σ ρ)(h:own σ ρ a):∃o,(N a=some o/\boxed o)/\H0 a=none:=by
 obtain⟨i,d,h1,h2⟩:=h;obtain⟨M,o,h3,h4,h5,G⟩:=s.ow i d h1;rw[h2]at h3;cases h3;exact⟨o,⟨h4,G.boxed⟩,h5⟩
def cb.rep (s:cb K B0 H0 N H σ ρ):dz K N σ ρ:=⟨s.tb.mono s.ext.bn,λi d b q=>by
 cases b with
 |false=>obtain⟨v,h1,h2⟩:=s.sh i d q;exact⟨v,h1,h2.mono bi⟩
 |true=>
  obtain⟨a,o,h2,h3,_,h4⟩:=s.ow i d q;exact⟨_,h2,(h4.mono bi).is h3⟩⟩
noncomputable def eM (ρ:Env):Env:=ρ.map λx=>match x with|some (d,false)=>some (d,false)|_=>none
def wB {i:Nat}{d:D}{b:Bool}(h:(eM ρ)[i]? = some (some (d,b))):b=false/\ρ[i]? = some (some (d,false)):=by
 unfold eM at h;rw[vB]at h;cases e:ρ[i]? with
 |none=>rw[e]at h;cases h
 |some x=>
  rw[e]at h;match x,h with
  |some (d',false),h=>cases h;exact⟨rfl,rfl⟩
  |some (d',true),h=>cases h
  |none,h=>cases h
def cb.tbC (s:cb K B0 H0 N H σ ρ):Tb K (cg N (own σ ρ)):=λx hx c P q=>by
 have z:=s.tb.mono s.ext.bn x hx c P q;rw[bO]
 ·exact z
 ·intro y;obtain⟨o,⟨y,G⟩,_⟩:=s.owned y;rw[z]at y;cases y;exact G
def cb.repH (s:cb K B0 H0 N H σ ρ):dz K (cg N (own σ ρ)) σ (eM ρ):=⟨s.tbC,λi d b q=>by
 obtain⟨rfl,G⟩:=wB q;exact s.sh i d G⟩
def cb.grow (s:cb K B0 H0 N H σ ρ)(x:Ext N N' H H'):cb K B0 H0 N' H' σ ρ:=by
 have c:aJ (cg N (own σ ρ)) (cg N' (own σ ρ)):=cQ λa o e q=>⟨x.bn a o e,q⟩;refine⟨s.bh,s.tb,s.ext.trans x,s.len,λi d q=>?_,λi d q=>?_,s.inj⟩
 ·obtain⟨v,h1,h2⟩:=s.sh i d q;exact⟨v,h1,h2.mono c⟩
 ·obtain⟨a,o,h2,h3,h4,h5⟩:=s.ow i d q;exact⟨a,o,h2,x.bn _ _ h3,h4,h5.mono c⟩
def cb.growH (s:cb K B0 H0 N H σ ρ)(x:Ext (cg N (own σ ρ)) N' H H'):cb K B0 H0 (join N N') H' σ ρ/\aJ N' (cg (join N N') (own σ ρ)):=by
 have M:Ext N (join N N') H H':=by
  refine⟨x.hh,cm,λa o e=>?_,λa o e=>?_⟩
  ·cases q:N a with
   |some u=>
    have:join N N' a=some u:=cm _ _ q;rw[this]at e;cases e;exact x.hh _ _ (s.ext.nh _ _ q)
   |none=>rw[cz q]at e;exact x.nh _ _ e
  ·cases q:N a with
   |some u=>
    have:join N N' a=some u:=cm _ _ q;rw[this]at e;cases e;exact .inl rfl
   |none=>
    rw[cz q]at e;rcases x.new a o e with z|z
    ·have:=bi _ _ z;rw[q]at this;cases this
    ·exact .inr z
 refine⟨s.grow M,λa o e=>?_⟩;rcases x.new a o e with z|z
 ·obtain⟨O,T⟩:=fP z;rw[bO O];exact cm _ _ T
 ·have G:N a=none:=s.ext.nh.free z;have:¬own σ ρ a:=λq=>by obtain⟨vs,⟨q,_⟩,_⟩:=s.owned q;rw[G]at q;cases q
  rw[bO this,cz G];exact e
def unown (ρ:Env):Env:=ρ.map λx=>x.map λy=>(y.1,false)
def h6 {i:Nat}{d:D}{b:Bool}(h:(unown ρ)[i]? = some (some (d,b))):b=false/\∃c,ρ[i]? = some (some (d,c)):=by
 unfold unown at h;rw[vB]at h;cases e:ρ[i]? with
 |none=>rw[e]at h;cases h
 |some x=>
  rw[e]at h;match x,h with
  |some (d',c),h=>cases h;exact⟨rfl,c,rfl⟩
  |none,h=>cases h
def mC {a:Addr}:¬own σ (unown ρ) a:=λ⟨i,d,h,_⟩=>by
 obtain⟨z,_⟩:=h6 h;cases z
def cb.unown (s:cb K B0 H0 N H σ ρ):cb K B0 H0 N H σ (unown ρ):=by
 refine⟨s.bh,s.tb,s.ext,by unfold DL.unown;rw[vI];exact s.len,λi d q=>?_,λi d q=>?_,λi j a d e q=>?_⟩
 ·obtain⟨_,c,q⟩:=h6 q;obtain⟨v,h1,h2⟩:=s.rep.at' i d c q;exact⟨v,h1,h2.mono λa o e=>by rw[bO mC];exact e⟩
 ·obtain⟨z,_⟩:=h6 q;cases z
 ·obtain⟨z,_⟩:=h6 q;cases z
def bu {α:Type}{l:List α}{i j:Nat}{x y:α}(h:(l.set i x)[j]? = some y):(i=j/\x=y)∨(i≠j/\l[j]? = some y):=by
 by_cases e:i=j
 ·subst e;rw[List.getElem?_set]at h;split at h
  ·split at h
   ·exact .inl ⟨rfl,vK h⟩
   ·cases h
  ·contradiction
 ·rw[vC e]at h;exact .inr ⟨e,h⟩
def mD {α G:Type}{l:List α}{m:List G}{i:Nat}{x y:α}(h:(l.set i x)[i]? = some y)(e:l.length=m.length):i<m.length:=by
 obtain⟨h,_⟩:=vV h;rw[length_set]at h;omega
def iN {i:Nat}{v:V}{x:OB}{a:Addr}(h:own (σ.set i (some v)) (ρ.set i x) a):(v=.ref a/\∃d,x=some (d,true))∨∃j,j≠i/\∃d,ρ[j]? = some (some (d,true))/\σ[j]? = some (some (V.ref a)):=by
 obtain⟨j,d,h1,h2⟩:=h;rcases bu h1 with⟨e,q⟩|⟨e,q⟩
 ·rcases bu h2 with⟨G,M⟩|⟨G,M⟩
  ·cases M;exact .inl ⟨rfl,d,q⟩
  ·exact absurd e G
 ·rcases bu h2 with⟨G,M⟩|⟨G,M⟩
  ·exact absurd G e
  ·exact .inr ⟨j,λz=>e z.symm,d,q,M⟩
def cb.bind (s:cb K B0 H0 N H σ ρ){i:Nat}{v:V}{d:D}(h:Is K (cg N (own σ ρ)) v d):cb K B0 H0 N H (σ.set i (some v)) (ρ.set i (some (d,false))):=by
 have o:∀a,own (σ.set i (some v)) (ρ.set i (some (d,false))) a->own σ ρ a:=λa q=>by
  rcases iN q with⟨_,d',p⟩|⟨j,_,d',O,T⟩
  ·cases p
  ·exact⟨j,d',O,T⟩
 have c:aJ (cg N (own σ ρ)) (cg N (own (σ.set i (some v)) (ρ.set i (some (d,false))))):=cQ λa u e q=>⟨e,λz=>q (o a z)⟩;refine⟨s.bh,s.tb,s.ext,by simp[s.len],λj e q=>?_,λj e q=>?_,λj k a e f q U h1 h2=>?_⟩
 ·rcases bu q with⟨rfl,p⟩|⟨ne,p⟩
  ·cases p
   have hi:=mD q s.len;exact⟨v,by simp[hi],h.mono c⟩
  ·obtain⟨w,h1,h2⟩:=s.sh j e p;exact⟨w,by rw[vC ne];exact h1,h2.mono c⟩
 ·rcases bu q with⟨rfl,p⟩|⟨ne,p⟩
  ·cases p
  ·obtain⟨a,o,h1,h2,h3,h4⟩:=s.ow j e p;exact⟨a,o,by rw[vC ne];exact h1,h2,h3,h4.mono c⟩
 ·rcases bu q with⟨rfl,p⟩|⟨ne,p⟩
  ·cases p
  ·rcases bu U with⟨rfl,G⟩|⟨M,G⟩
   ·cases G
   ·rw[vC ne]at h1;rw[vC M]at h2;exact s.inj j k a e f p G h1 h2
def cb.bindOwn (s:cb K B0 H0 N H σ ρ){i:Nat}{a:Addr}{ob:HO}{U:D}(hN:N a=some ob)(h0:H0 a=none)(M:∀(j:Nat)(d:D),ρ[j]? = some (some (d,true))->σ[j]? ≠ some (some (V.ref a)))
  (J2:∀(j:Nat)(d:D),j≠i->ρ[j]? = some (some (d,false))->∃v,σ[j]? = some (some v)/\Is K (cg N (λb=>own σ ρ b∨b=a)) v d) (J3:∀(j:Nat)(d:D),j≠i->ρ[j]? = some (some (d,true))->∃(O:Addr)(o:HO),σ[j]? = some (some (V.ref O))/\N O=some o/\Bx K (cg N (λb=>own σ ρ b∨b=a)) o d)
  (GI:Bx K (cg N (λb=>own σ ρ b∨b=a)) ob U):cb K B0 H0 N H (σ.set i (some (.ref a))) (ρ.set i (some (U,true))):=by
 have o:∀b,own (σ.set i (some (V.ref a))) (ρ.set i (some (U,true))) b->own σ ρ b∨b=a:=λb q=>by
  rcases iN q with⟨p,_⟩|⟨j,_,d',q1,q2⟩
  ·cases p;exact .inr rfl
  ·exact .inl ⟨j,d',q1,q2⟩
 have c:aJ (cg N (λb=>own σ ρ b∨b=a)) (cg N (own (σ.set i (some (V.ref a))) (ρ.set i (some (U,true))))):=cQ λb u e q=>⟨e,λz=>q (o b z)⟩;refine⟨s.bh,s.tb,s.ext,by simp[s.len],λj e q=>?_,λj e q=>?_,λj k b e f q q' h1 h2=>?_⟩
 ·rcases bu q with⟨rfl,p⟩|⟨ne,p⟩
  ·cases p
  ·obtain⟨w,h1,h2⟩:=J2 j e (Ne.symm ne) p;exact⟨w,by rw[vC ne];exact h1,h2.mono c⟩
 ·rcases bu q with⟨rfl,p⟩|⟨ne,p⟩
  ·cases p
   have hi:=mD q s.len;exact⟨a,ob,by simp[hi],hN,h0,GI.mono c⟩
  ·obtain⟨O,o',h1,h2,h4⟩:=J3 j e (Ne.symm ne) p;have h3:H0 O=none:=by
    obtain⟨a2,_,k1,_,k3,_⟩:=s.ow j e p;rw[h1]at k1;cases k1;exact k3
   exact⟨O,o',by rw[vC ne];exact h1,h2,h3,h4.mono c⟩
 ·rcases bu q with⟨rfl,p⟩|⟨ne,p⟩
  ·rcases bu q' with⟨rfl,T⟩|⟨G,T⟩
   ·rfl
   ·rw[vC G]at h2;have J4:V.ref a=V.ref b:=by
     rcases bu h1 with⟨_,z⟩|⟨z,_⟩
     ·exact vK z
     ·exact absurd rfl z
    cases J4
    exact absurd h2 (M k f T)
  ·rcases bu q' with⟨rfl,T⟩|⟨G,T⟩
   ·rw[vC ne]at h1;have EA:V.ref a=V.ref b:=by
     rcases bu h2 with⟨_,z⟩|⟨z,_⟩
     ·exact vK z
     ·exact absurd rfl z
    cases EA
    exact absurd h1 (M j e p)
   ·rw[vC ne]at h1;rw[vC G]at h2;exact s.inj j k b e f p T h1 h2
end
inductive Res where
 |nx (ρ:Env)|rt (d:D) (b:Bool)|bk (ρ:Env)|ct (ρ:Env)
abbrev FS:=Env->Option Res
def DO (K:Frag)(B0 H0:Hp)(E:Ends):Res->Prop
 |.nx ρ=>∀σ H,nV K B0 H0 H σ ρ->E.nx σ H
 |.rt d b=>∀v H N,Ext B0 N H0 H->Is K N v d->(b=true->CY K H0 N v d)->E.rt v H
 |.bk ρ=>∀σ H,nV K B0 H0 H σ ρ->E.bk σ H
 |.ct ρ=>∀σ H,nV K B0 H0 H σ ρ->E.ct σ H
def j7 (K:Frag)(g:FS):TS:=λE σ H=>∃(B0 H0:Hp)(ρ:Env)(r:Res),nV K B0 H0 H σ ρ/\g ρ=some r/\DO K B0 H0 E r
section
variable {K:Frag}{B0 H0 N H H':Hp}{σ:St}{ρ:Env}{E:Ends}
def cb.writeB (s:cb K B0 H0 N H σ ρ)(hi:ρ[i]? = some (some (d,true)))(G:σ[i]? = some (some (V.ref a)))(h:Bx K (cg N (own σ ρ)) ob dd):
  cb K B0 H0 (upd N a ob) (upd H a ob) σ (ρ.set i (some (dd,true))):=by
 have oa:own σ ρ a:=⟨i,d,hi,G⟩;obtain⟨ws,hw,h0⟩:=s.owned oa;have b0:B0 a=none:=s.bh.free h0;have o:∀b,own σ (ρ.set i (some (dd,true))) b↔own σ ρ b:=λb=>by
  constructor
  ·rintro⟨j,e,O,M⟩;rcases bu O with⟨rfl,p⟩|⟨_,p⟩
   ·exact⟨i,d,hi,M⟩
   ·exact⟨j,e,p,M⟩
  ·rintro⟨j,e,O,M⟩;by_cases z:i=j
   ·subst z;exact⟨i,dd,by rw[getElem?_set_self (vV hi).1],M⟩
   ·exact⟨j,e,by rw[vC z];exact O,M⟩
 have c:aJ (cg N (own σ ρ)) (cg (upd N a ob) (own σ (ρ.set i (some (dd,true))))):=cQ λb u e q=>by
  have ne:b≠a:=λz=>q (z ▸ oa);exact⟨by rw[aE ne];exact e,λz=>q ((o b).mp z)⟩
 refine⟨s.bh,s.tb,⟨λb u e=>?_,λb u e=>?_,λb u e=>?_,λb u e=>?_⟩,by rw[length_set];exact s.len,λj e q=>?_,λj e q=>?_,λj k b e f q q' h1 h2=>?_⟩
 ·rw[aE (λz=>by subst z;rw[h0]at e;cases e)];exact s.ext.hh _ _ e
 ·rw[aE (λz=>by subst z;rw[b0]at e;cases e)];exact s.ext.bn _ _ e
 ·by_cases z:b=a
  ·subst z;rw[a8]at e ⊢;exact e
  ·rw[aE z]at e ⊢;exact s.ext.nh _ _ e
 ·by_cases z:b=a
  ·subst z;exact .inr h0
  ·rw[aE z]at e;exact s.ext.new _ _ e
 ·rcases bu q with⟨rfl,p⟩|⟨ne,p⟩
  ·cases p
  ·obtain⟨v,h1,h2⟩:=s.sh j e p;exact⟨v,h1,h2.mono c⟩
 ·rcases bu q with⟨rfl,p⟩|⟨ne,p⟩
  ·cases p
   exact⟨a,ob,G,a8,h0,h.mono c⟩
  ·obtain⟨U,o',h1,h2,h3,h4⟩:=s.ow j e p;have na:U≠a:=λz=>by subst z;exact ne (s.inj i j _ d e hi p G h1)
   exact⟨U,o',h1,by rw[aE na];exact h2,h3,h4.mono c⟩
 ·have get:∀ {j:Nat}{e:D},(ρ.set i (some (dd,true)))[j]? = some (some (e,true))->∃T,ρ[j]? = some (some (T,true)):=λ{j e} q=>by
   rcases bu q with⟨rfl,p⟩|⟨ne,p⟩
   ·exact⟨d,hi⟩
   ·exact⟨e,p⟩
  obtain⟨T,O⟩:=get q;obtain⟨f',M⟩:=get q';exact s.inj j k b T f' O M h1 h2
def cb.write (s:cb K B0 H0 N H σ ρ)(hi:ρ[i]? = some (some (d,true)))(G:σ[i]? = some (some (V.ref a)))(h:IsL K (cg N (own σ ρ)) vs ds):
  cb K B0 H0 (upd N a (.lst vs)) (upd H a (.lst vs)) σ (ρ.set i (some (.lst ds,true))):=s.writeB hi G (.lst h)
def cb.tups (s:cb K B0 H0 N H σ ρ):∀a vs,fz K N a vs->fz K (cg N (own σ ρ)) a vs:=λa vs h=>by
 have G:∀u,N a=some u->¬boxed u->cg N (own σ ρ) a=some u:=λu e hu=>by
  rw[bO λz=>?_];exact e;obtain⟨O,⟨q,M⟩,_⟩:=s.owned z;rw[e]at q;cases q;exact hu M
 rcases h with (h|⟨o,h⟩)|h
 ·exact .inl (.inl (G _ h (λq=>q)))
 ·exact .inl (.inr ⟨o,G _ h (λq=>q)⟩)
 ·exact .inr h
def cb.flat (s:cb K B0 H0 N H σ ρ)(h:Is K N v d)(n:aZ d=true):Is K (cg N (own σ ρ)) v d:=h.keepT s.tups n
def cb.flats (s:cb K B0 H0 N H σ ρ)(h:IsL K N v d)(n:bA d=true):IsL K (cg N (own σ ρ)) v d:=h.keepT s.tups n
def cb.rebase (s:cb K B0 H0 N H σ ρ):cb K (cg N (own σ ρ)) (cg H (own σ ρ)) N H σ ρ :=
 ⟨cQ λa o e q=>⟨s.ext.nh _ _ e,q⟩,s.tbC,⟨bi,bi,s.ext.nh,λa o e=>by
  by_cases q:own σ ρ a
  ·exact .inr (rh q)
  ·exact .inl (by rw[bO q];exact e)⟩,s.len,s.sh,λi d q=>by
   obtain⟨a,o,h1,h2,_,h4⟩:=s.ow i d q;exact⟨a,o,h1,h2,rh ⟨i,d,q,h1⟩,h4⟩,s.inj⟩
def cb.unbase (s:cb K B0 H0 N H σ ρ)(t:cb K (cg N (own σ ρ)) (cg H (own σ ρ)) N' H' σ' ρ'):cb K B0 H0 N' H' σ' ρ':=by
 have h0:aJ H0 (cg H (own σ ρ)):=λa o e=>by
  rw[bO λz=>?_];exact s.ext.hh _ _ e;obtain⟨_,_,q⟩:=s.owned z;rw[q]at e;cases e
 have G:aJ B0 (cg N (own σ ρ)):=λa o e=>by
  rw[bO λz=>?_];exact s.ext.bn _ _ e;obtain⟨_,_,q⟩:=s.owned z;rw[s.bh _ _ e]at q;cases q
 refine⟨s.bh,s.tb,⟨h0.trans t.ext.hh,G.trans t.ext.bn,t.ext.nh,λa o e=>?_⟩,t.len,t.sh,λi d q=>?_,t.inj⟩
 ·rcases t.ext.new a o e with z|z
  ·exact s.ext.new a o (bi _ _ z)
  ·exact .inr (h0.free z)
 ·obtain⟨a,o,h1,h2,h3,h4⟩:=t.ow i d q;exact⟨a,o,h1,h2,h0.free h3,h4⟩
def cb.based (t:cb K B0 H0 N H σ ρ):aJ B0 (cg N (own σ ρ)):=λa o e=>by
 rw[bO λz=>?_];exact t.ext.bn _ _ e;obtain⟨_,_,q⟩:=t.owned z;rw[t.bh _ _ e]at q;cases q
@[simp] noncomputable def aC (g h:FS):FS:=λρ=>match g ρ with|some (.nx ρ')=>h ρ'|r=>r
@[simp] def aV:FS:=λρ=>some (.nx ρ)
@[simp] noncomputable def dh (c:FT)(g h:FS):FS:=λρ=>match c ρ with|some true=>g ρ|some false=>h ρ|none=>none
@[simp] def aM (f:FE):FS:=λρ=>(f ρ).map λx=>.rt x.1 x.2
@[simp] noncomputable def A7:D->Bool
 |.dk _ _=>true
 |.dt _ _=>true
 |_=>false
@[simp] def iO (i:Nat):FS:=λρ=>match ρ[i]? with|some (some (d,b))=>some (.rt d (b && !A7 d))|_=>none
@[simp] def A8:D->Bool
 |.lst ds=>bA ds
 |_=>false
@[simp] def setE (ρ:Env)(i:Nat)(d:D)(b:Bool):Env :=
 if aZ d=true then ρ.set i (some (d,false))else if b=true/\A8 d=true then ρ.set i (some (d,true))else (unown ρ).set i (some (d,false))
@[simp] def bf (i:Nat)(f:FE):FS:=λρ=>(f ρ).map λx=>.nx (setE ρ i x.1 x.2)
@[simp] def Hz (i:Nat)(f:FE):FS:=λρ=>(f (eM ρ)).map λx=>.nx (ρ.set i (some (x.1,false)))
@[simp] def j8 (i:Nat)(f:FE):FS:=λρ=>match ρ[i]? with
 |some (some (.lst ds,true))=>(f ρ).bind λx=>if aZ x.1=true/\ds.length<sizeLine then some (.nx (ρ.set i (some (.lst (ds++[x.1]),true))))else none
 |_=>none
def zh (q:j7 K (aC g h) E σ H):qQ (j7 K g) (j7 K h) E σ H:=by
 obtain⟨B0,H0,ρ,r,s,e,p⟩:=q;unfold aC at e;cases G:g ρ with
 |none=>rw[G]at e;cases e
 |some M=>
  rw[G]at e;cases M with
  |nx ρ'=>exact⟨B0,H0,ρ,.nx ρ',s,G,λO H' T=>⟨B0,H0,ρ',r,T,e,p⟩⟩
  |rt d b=>cases e;exact⟨B0,H0,ρ,_,s,G,p⟩
  |bk ρ'=>cases e;exact⟨B0,H0,ρ,_,s,G,p⟩
  |ct ρ'=>cases e;exact⟨B0,H0,ρ,_,s,G,p⟩
def wC (q:j7 K aV E σ H):kP E σ H:=by
 obtain⟨B0,H0,ρ,r,s,e,p⟩:=q;cases e
 exact p σ H s
def nV.grown (s:cb K B0 H0 N H σ ρ)(h:aJ H H'):nV K B0 H0 H' σ ρ:=⟨N,s.grow (.grow s.ext.nh h)⟩
def BJ (q:j7 K (dh c g h) E σ H):qR (nU K c) (j7 K g) (j7 K h) E σ H:=by
 obtain⟨B0,H0,ρ,r,⟨N,s⟩,e,p⟩:=q;unfold dh at e;cases G:c ρ with
 |none=>rw[G]at e;cases e
 |some b=>
  rw[G]at e;refine⟨N,ρ,b,s.ext.nh,s.rep,G,λM h1=>?_⟩;cases b with
  |true=>rw[if_pos rfl];exact⟨B0,H0,ρ,r,.grown s h1,e,p⟩
  |false=>rw[if_neg (by decide)];exact⟨B0,H0,ρ,r,.grown s h1,e,p⟩
def zi (q:j7 K (aM f) E σ H):Bp (tD K f) E σ H:=by
 obtain⟨B0,H0,ρ,r,⟨N,s⟩,e,p⟩:=q;obtain⟨x,ex,e⟩:=oY e;subst e;exact⟨N,ρ,x.1,x.2,s.ext.nh,s.rep,ex,λv G N1 M i1 f1=>p v G N1 (s.ext.trans M) i1 λb=>(f1 b).back s.ext.hh⟩
def wD (q:j7 K (iO i) E σ H):Bp (mf i) E σ H:=by
 obtain⟨B0,H0,ρ,r,⟨N,s⟩,e,p⟩:=q;unfold iO at e;split at e
 ·rename_i d b G;cases e
  cases b with
  |false=>
   obtain⟨v,h1,h2⟩:=s.sh i d G;exact⟨v,h1,p v H N s.ext (h2.mono bi) (by simp)⟩
  |true=>
   obtain⟨a,o,h1,h2,h3,h4⟩:=s.ow i d G;cases h4 with
   |lst h4=>exact⟨_,h1,p _ H N s.ext (.lst (dZ.of h2) (h4.mono bi)) λ_=>⟨a,_,_,rfl,rfl,h3,h2,h4.mono bi⟩⟩
   |dk hl h4=>exact⟨_,h1,p _ H N s.ext (.dk h2 hl (h4.mono bi)) (by simp)⟩
   |dt hl h4=>exact⟨_,h1,p _ H N s.ext (.dt h2 hl (h4.mono bi)) (by simp)⟩
 ·cases e
def cb.setE (s:cb K B0 H0 N H σ ρ)(x:Ext N N1 H H1)(h:Is K N1 v d)(f:b=true->CY K H N1 v d):cb K B0 H0 N1 H1 (σ.set i (some v)) (setE ρ i d b):=by
 have s1:=s.grow x;unfold DL.setE;by_cases hn:aZ d=true
 ·rw[if_pos hn];exact s1.bind (s1.flat h hn)
 ·rw[if_neg hn];by_cases hb:b=true/\A8 d=true
  ·rw[if_pos hb];obtain⟨es,rfl⟩:∃es,d=.lst es:=by cases d<;>first|exact⟨_,rfl⟩|(simp at hb)
   obtain⟨a,vs,ds,rfl,z,ha,O,hs⟩:=f hb.1;cases z
   have G:N a=none:=s.ext.nh.free ha;have T:¬own σ ρ a:=λz=>by obtain⟨U,⟨q,_⟩,_⟩:=s.owned z;rw[G]at q;cases q
   have c:aJ (cg N (own σ ρ)) (cg N1 (λb=>own σ ρ b∨b=a)):=cQ λb u e q=>⟨x.bn _ _ e,λz=>z.elim q λz=>by subst z;rw[G]at e;cases e⟩;refine s1.bindOwn O (s.ext.hh.free ha) (λj e q z=>T ⟨j,e,q,z⟩) (λj e _ q=>?_) (λj e _ q=>?_) (.lst (hs.keepT (λt ts st=>?_) hb.2))
   ·obtain⟨w,h1,h2⟩:=s.sh j e q;exact⟨w,h1,h2.mono c⟩
   ·obtain⟨a',o',h1,h2,_,h4⟩:=s.ow j e q;exact⟨a',o',h1,x.bn _ _ h2,h4.mono c⟩
   ·have M:∀u,N1 t=some u->¬boxed u->cg N1 (λb=>own σ ρ b∨b=a) t=some u:=λu e hu=>by
     rw[bO λz=>?_];exact e;rcases z with z|z
     ·obtain⟨U,⟨q,qb⟩,_⟩:=s1.owned z;rw[e]at q;cases q;exact hu qb
     ·subst z;rw[e]at O;cases O;exact hu trivial
    rcases st with (st|⟨o,st⟩)|st
    ·exact .inl (.inl (M _ st (λq=>q)))
    ·exact .inl (.inr ⟨o,M _ st (λq=>q)⟩)
    ·exact .inr st
  ·rw[if_neg hb];exact s1.unown.bind (h.mono λa o e=>by rw[bO mC];exact e)
def sx (q:j7 K (bf i f) E σ H):qS (tD K f) (g9 i) E σ H:=by
 obtain⟨B0,H0,ρ,r,⟨N,s⟩,e,p⟩:=q;obtain⟨x,ex,e⟩:=oY e;subst e;exact⟨N,ρ,x.1,x.2,s.ext.nh,s.rep,ex,λv G N1 M i1 f1=>p _ G ⟨N1,s.setE M i1 f1⟩⟩
def zj (q:j7 K (j8 i f) E σ H):∃(a:Addr)(us:LV),σ[i]? = some (some (V.ref a))/\H a=some (.lst us)/\wo (tD K f) B7 σ H λxs H2=>nR (.ref a) xs H2 λ_ T=>E.nx σ T:=by
 obtain⟨B0,H0,ρ,r,⟨N,s⟩,e,p⟩:=q;unfold j8 at e;split at e
 ·rename_i ds G;obtain⟨x,ex,e⟩:=oX e;split at e
  ·rename_i hx;cases e
   obtain⟨a,vs,M,z,h1,h2,h3,h4⟩:=s.owL i _ G;cases z
   refine⟨a,vs,h1,s.ext.nh _ _ h2,N,ρ,x.1,x.2,s.ext.nh,s.rep,ex,λv H1 N1 O i1 f1=>⟨a,vs,v,rfl,rfl,O.hh _ _ (s.ext.nh _ _ h2),by rw[h4.length];exact hx.2,?_⟩⟩;have s1:=s.grow O;obtain⟨a',U,M,z,k1,k2,_,k4⟩:=s1.owL i _ G;cases z
   rw[h1]at k1;cases k1;rw[O.bn _ _ h2]at k2;cases k2;exact p σ _ ⟨_,s1.write G h1 (k4.append (.cons (s1.flat i1 hx.1) .nil))⟩
  ·cases e
 ·cases e
end
noncomputable def bR (c:FT)(g:FS):Nat->Env->Option Res
 |0,_=>none
 |n+1,ρ=>match c ρ with
  |some true=>match g ρ with
   |some (.nx ρ')=>bR c g n ρ'
   |some (.ct ρ')=>bR c g n ρ'
   |some (.bk ρ')=>some (.nx ρ')
   |r=>r
  |some false=>some (.nx ρ)
  |none=>none
def ux (q:j7 K (bR c g n) E σ H):wg (nU K c) (j7 K g) E σ H:=by
 obtain⟨B0,H0,ρ,r,s,e,p⟩:=q;refine⟨λm σ H=>∃ρ,nV K B0 H0 H σ ρ/\bR c g m ρ=some r,⟨n,ρ,s,e⟩,?_⟩;rintro m σ H ⟨ρ,⟨N,s⟩,e⟩;cases m with
 |zero=>cases e
 |succ m=>
  unfold bR at e;cases O:c ρ with
  |none=>rw[O]at e;cases e
  |some b=>
   rw[O]at e;refine⟨N,ρ,b,s.ext.nh,s.rep,O,λH1 h1=>?_⟩;cases b with
   |false=>rw[if_neg (by decide)];cases e;exact p σ H1 (.grown s h1)
   |true=>
    rw[if_pos rfl];refine⟨λσ H=>∃ρ,nV K B0 H0 H σ ρ/\bR c g m ρ=some r,λG H' w=>⟨m,lt_succ_self m,w⟩,?_⟩;cases T:g ρ with
    |none=>rw[T]at e;cases e
    |some U=>
     rw[T]at e;refine⟨B0,H0,ρ,U,.grown s h1,T,?_⟩;cases U with
     |nx ρ'=>exact λG H' M=>⟨ρ',M,e⟩
     |ct ρ'=>exact λG H' M=>⟨ρ',M,e⟩
     |bk ρ'=>cases e;exact λG H' M=>p G H' M
     |rt d b=>cases e;exact p
def kq (K:Frag)(J:It)(B:Hp)(ds:LD):Prop:=∀(i:Nat)(H:Hp),aJ B H ->
 (∀d,ds[i]? = some d->J.go i H/\∀x H',J.yld i H x H'->∃N,Ext B N H H'/\Is K N x d)/\(ds.length<=i->J.stop i H)
def HA (K:Frag)(f:FA):TI:=λσ H R=>∃(B:Hp)(ρ:Env)(ds:LD),aJ B H/\dz K B σ ρ/\f ρ=some ds/\∀(J:It)(H' N:Hp),Ext B N H H'->kq K J N ds->R J H'
abbrev FG:=D->Env->Option Env
def zk (K:Frag)(tg:FG)(g:TG):Prop:=∀(B0 H0 N H:Hp)(σ:St)(ρ ρ':Env)(v:V)(d:D)(Q:St->Hp->Prop),cb K B0 H0 N H σ ρ->Is K (cg N (own σ ρ)) v d->tg d ρ=some ρ' ->
 (∀G H',nV K B0 H0 H' G ρ'->Q G H')->g v σ H Q
@[simp] noncomputable def eI (i:Nat):FG:=λd ρ=>some (ρ.set i (some (d,false)))
def dH:zk K (eI i) (g9 i):=by
 intro B0 H0 N H σ ρ ρ' v d Q s h e k;cases e
 exact k _ H ⟨N,s.bind h⟩
noncomputable def bL (tg:FG)(g:FS):LD->Env->Option Res
 |[],ρ=>some (.nx ρ)
 |d::ds,ρ=>(tg d ρ).bind λG=>match g G with
  |some (.nx ρ')=>bL tg g ds ρ'
  |some (.ct ρ')=>bL tg g ds ρ'
  |some (.bk ρ')=>some (.nx ρ')
  |r=>r
@[simp] def wE (tg:FG)(g:FS)(ρ:Env):bL tg g [] ρ=some (.nx ρ):=by rw[bL]
@[simp] theorem fQ (tg:FG)(g:FS)(d:D)(ds:LD)(ρ:Env):bL tg g (d::ds) ρ=(tg d ρ).bind λG=>match g G with
  |some (.nx ρ')=>bL tg g ds ρ'
  |some (.ct ρ')=>bL tg g ds ρ'
  |some (.bk ρ')=>some (.nx ρ')
  |r=>r:=by rw[bL]
@[simp] def gk (f:FA)(tg:FG)(g:FS):FS:=λρ=>(f (eM ρ)).bind λds=>bL tg g ds ρ
def pi (ht:zk K tg t)(s1:cb K B0 H0 N H1 σ ρ)(c:aJ N1 (cg N (own σ ρ)))(J1:kq K J N1 ds)(e:bL tg g ds ρ=some r)(p:DO K B0 H0 E r):
  ∃W:Nat->Nat->St->Hp->Prop,(∃m,W 0 m σ H1)/\∀i m σ H,W i m σ H->(J.stop i H/\E.nx σ H)∨(J.go i H/\∃N:St->Hp->Prop,(∀G H',N G H'->∃m',m'<m/\W (i+1) m' G H')/\∀x H',J.yld i H x H'->t x σ H' λT H2=>j7 K g { E with nx:=N,ct:=N,bk:=E.nx } T H2):=by
 refine⟨λi m σ H=>∃(N:Hp)(ρ:Env),cb K B0 H0 N H σ ρ/\aJ N1 (cg N (own σ ρ))/\m=ds.length - i/\i<=ds.length/\bL tg g (ds.drop i) ρ=some r,⟨ds.length,_,ρ,s1,c,rfl,uO _,e⟩,?_⟩;clear e s1 c;rintro i m σ H ⟨N,ρ,s,c,rfl,hi,e⟩;have hs:aJ N1 H:=c.trans (bi.trans s.ext.nh);obtain⟨j1,j2⟩:=J1 i H hs;by_cases M:i<ds.length
 ·obtain⟨go,yl⟩:=j1 ds[i] (by simp[M]);rw[List.drop_eq_getElem_cons M]at e;obtain⟨U,e1,e⟩:=oX e;refine .inr ⟨go,λG H'=>∃(N:Hp)(ρ:Env),cb K B0 H0 N H' G ρ/\aJ N1 (cg N (own G ρ))/\bL tg g (ds.drop (i+1)) ρ=some r,λG H' ⟨N',ρ',s',c',e'⟩=>⟨_,by omega,N',ρ',s',c',rfl,M,e'⟩,λx H' y=>?_⟩;obtain⟨N2,O,i2⟩:=yl x H' y;have x3:Ext (cg N (own σ ρ)) (join (cg N (own σ ρ)) N2) H H':=by
   refine⟨O.hh,cm,λa o e=>?_,λa o e=>?_⟩
   ·cases q:cg N (own σ ρ) a with
    |some u=>rw[cm _ _ q]at e;cases e;exact O.hh _ _ (s.ext.nh _ _ (bi _ _ q))
    |none=>rw[cz q]at e;exact O.nh _ _ e
   ·cases q:cg N (own σ ρ) a with
    |some u=>rw[cm _ _ q]at e;cases e;exact .inl rfl
    |none=>
     rw[cz q]at e;rcases O.new a o e with z|z
     ·rw[c _ _ z]at q;cases q
     ·exact .inr z
  obtain⟨s2,c2⟩:=s.growH x3;have c3:aJ N2 (join (cg N (own σ ρ)) N2):=λa o e=>by
   rcases O.new a o e with z|z
   ·exact cm _ _ (c _ _ z)
   ·rw[cz ((bi.trans s.ext.nh).free z)];exact e
  have i3:=i2.mono (c3.trans c2);have c4:aJ N1 (cg (join N (join (cg N (own σ ρ)) N2)) (own σ ρ)):=(O.bn.trans c3).trans c2;refine ht _ _ _ _ _ _ _ _ _ _ s2.rebase i3 e1 λT H2 ⟨N4,s4⟩=>?_;cases eg:g U with
  |none=>rw[eg]at e;cases e
  |some r1=>
   rw[eg]at e;refine⟨_,_,U,r1,⟨N4,s4⟩,eg,?_⟩;have back:∀ {G:St}{H':Hp}{ρ':Env}{N':Hp},cb K _ _ N' H' G ρ'->cb K B0 H0 N' H' G ρ'/\aJ N1 (cg N' (own G ρ')):=λt=>⟨s2.unbase t,c4.trans t.based⟩;cases r1 with
   |nx ρ'=>exact λG H' ⟨N',t⟩=>⟨N',ρ',(back t).1,(back t).2,e⟩
   |ct ρ'=>exact λG H' ⟨N',t⟩=>⟨N',ρ',(back t).1,(back t).2,e⟩
   |bk ρ'=>cases e;exact λG H' ⟨N',t⟩=>p G H' ⟨N',(back t).1⟩
   |rt d b=>
    cases e
    intro v H' N' x' i' f';have y:=s2.rebase.ext;have h0:aJ H0 (cg H' (λ_=>False)):=λa o e=>by rw[bO (λz=>z)];exact x'.hh _ _ (by
     rw[bO λz=>?_];exact s2.ext.hh _ _ e;obtain⟨_,_,q⟩:=s2.owned z;rw[q]at e;cases e)
    have KZ:aJ H0 (cg H' (λ_=>False)):=h0;have hH:aJ H0 (cg H' (λ_=>False)):=h0;have hc:∀a,cg H' (λ_=>False) a=H' a:=λa=>bO (λz=>z);have hb:aJ H0 (cg _ (own σ ρ)):=λa o e=>by
     rw[bO λz=>?_];exact s2.ext.hh _ _ e;obtain⟨_,_,q⟩:=s2.owned z;rw[q]at e;cases e
    have bb:aJ B0 (cg _ (own σ ρ)):=λa o e=>by
     rw[bO λz=>?_];exact s2.ext.bn _ _ e;obtain⟨_,_,q⟩:=s2.owned z;rw[s2.bh _ _ e]at q;cases q
    refine p v H' N' ⟨hb.trans x'.hh,bb.trans x'.bn,x'.nh,λa o e=>?_⟩ i' λz=>(f' z).back hb;rcases x'.new a o e with z|z
    ·exact s2.ext.new a o (bi _ _ z)
    ·exact .inr (hb.free z)
 ·have ei:i=ds.length:=by omega
  subst ei;rw[drop_eq_nil_of_le (vT _)]at e;cases e
  exact .inl ⟨j2 (vT _),p σ H ⟨N,s⟩⟩
def zm (G:zk K tg t)(q:j7 K (gk f tg g) E σ H):Bw (HA K f) t (j7 K g) E σ H:=by
 obtain⟨B0,H0,ρ,r,⟨N,s⟩,e,p⟩:=q;obtain⟨ds,M,e⟩:=oX e;refine⟨cg N (own σ ρ),eM ρ,ds,bi.trans s.ext.nh,s.repH,M,λJ U N1 O T=>?_⟩;obtain⟨s1,c⟩:=s.growH O;exact pi G s1 c T e p
def DP (K:Frag)(f:FA):TI:=λσ H R=>∃(B:Hp)(ρ:Env)(ds:LD),aJ B H/\dz K B σ ρ/\f ρ=some ds/\∀(J:It)(H' N:Hp),Ext B N H H'->(∀G,kq K J G ds)->R J H'
@[simp] def fR (f:FA)(tg:FG)(g:FS):FS:=λρ=>(f ρ).bind λds=>bL tg g ds ρ
def wF (G:zk K tg t)(q:j7 K (fR f tg g) E σ H):Bw (DP K f) t (j7 K g) E σ H:=by
 obtain⟨B0,H0,ρ,r,⟨N,s⟩,e,p⟩:=q;obtain⟨ds,M,e⟩:=oX e;refine⟨N,ρ,ds,s.ext.nh,s.rep,M,λJ U N1 O T=>?_⟩;exact pi G (s.grow O) (aJ.refl _) (T _) e p
end DL
namespace DL
open PySem PySem.Spec PyProof.Rows L2
abbrev JE (X:Cx)(e:Expr)(f:FE):Prop:=PE X e (tD X.K f)
abbrev JT (X:Cx)(e:Expr)(f:FT):Prop:=PT X e (nU X.K f)
abbrev JW (X:Cx)(e:Expr)(f:FT):Prop:=PW X e (nU X.K f)
abbrev JA (X:Cx)(es:QD)(f:FA):Prop:=PA X es (DN X.K f)
abbrev JS (X:Cx)(st:Stmt)(g:FS):Prop:=PS X st (j7 X.K g)
abbrev md (X:Cx)(st:List Stmt)(g:FS):Prop:=me X st (j7 X.K g)
abbrev JI (X:Cx)(tg G:Expr)(f:FA):Prop:=PI X tg G (HA X.K f)
def BK (M:Model)(A:Around)(O:QD)(T:Expr)(env:PySem.Env)(U:Value)(E:QV)(P:Shared->Prop):Shared->Prop :=
 wpAny M A (forIn O true λc r=>if r=true then do let ok ←isTrue c env (eval c env);pure (ForInStep.yield ok)else pure (ForInStep.yield r))
  (λok G=>if ok=true then wpAny M A (eval T env) (λx=>wpAny M A (call (.builtin "list.append") [U,x]) (λ_=>P) E) E G else P G) E
def nW {E:QV}(hE:∀x s,¬E x s)(I:Nat->Shared->Prop)
  (T:∀n s,I n s->wpAny (model prog w) A (pyNext it) (λr G=>match r with
   |none=>R (.ok .next) G
   |some v=>wpAny (model prog w) A (letOwnedTupleGo sf it v) (λ_=>wpAny (model prog w) A (assign sf env v) (λ_=>BK (model prog w) A sg oV env qM E λs=>∃m,m<n/\I m s) E) E G) E s)
  (n:Nat) (h:I n s):codeAny (model prog w) A (.compLoop (.ListComp oV [⟨sf,dA,sg,0⟩] scope pos) 0 it qM env) R s:=by
 refine codeAny_loop rfl I (λn s hI=>?_) n h;show wpAny _ A ((compTurn (.ListComp oV [⟨sf,dA,sg,0⟩] scope pos) 0 it qM env).onRaise (λx=>do noteFrame x env;theTreesLotGoes x)) _ _ s;refine wpAny_noted (wpAny_mono (E:=E) ?_ (λ_ _ q=>q) λ_ _ z=>(hE _ _ z).elim);rw[compTurn_list];refine wX (wpAny_standAt (wX (bN (T n s hI) λr G M=>?_)));cases r with
 |none=>exact wY M
 |some v=>
  refine wX (bN M λ_ G M=>wX (bN M λ_ s₂ U=>wX (bN U λok s₃ O=>?_)));cases ok with
  |false=>exact wY ⟨rfl,O⟩
  |true=>exact wX (wX (bN O λx s₄ h₄=>wX (bN h₄ λ_ s₅ h₅=>wY (wY ⟨rfl,h₅⟩))))
def Ext.upd (x:Ext B N H H')(h:H a=none)(G:N a=none):Ext B N H (upd H' a o) :=
 ⟨λb u e=>by rw[aE (λz=>by subst z;rw[h]at e;cases e)];exact x.hh _ _ e,x.bn,λb u e=>by rw[aE (λz=>by subst z;rw[G]at e;cases e)];exact x.nh _ _ e,x.new⟩
noncomputable abbrev fJ (X:Cx)(N':LS)(scope:Scope)(cl:List (Str×Addr))(C:Addr)(G:Shared)(M:Hp)(fp:List Addr):Cx :=
 { X with N:=N',s₀:=G,H₀:=M,env:=compEnvC scope cl C X.env,outer:=X.stack,stack:=X.stack,ex:=fp,fn:=λ_=>false,pn:=[],xe:=λ_ _=>False }
inductive jy (X:Cx)(N':List Str)(scope:Scope)(cl:List (Str×Addr)):Nat->List Nat->Prop where
 |nil {j:Nat}(h:N'.length=j):jy X N' scope cl j []
 |cons {j i:Nat}{r:List Nat}{x:Str}(h1:N'[j]? = some x) (h2:X.N[i]? = some x) (h3:X.env.kindOf x=some .cell∨X.env.kindOf x=some .free)
   (h4:(relabel scope X.env).names.lookup x=some .cell∨(relabel scope X.env).names.lookup x=some .free) (h5:cl.lookup x=X.env.cells.lookup x) (t:jy X N' scope cl (j+1) r):jy X N' scope cl j (i::r)
theorem jy.len:∀ {j:Nat}{cap:LN},jy X N' scope cl j cap->N'.length=j+cap.length
 |_,_,.nil h=>by rw[h];rfl
 |j,i::r,.cons _ _ _ _ _ t=>by rw[t.len,vE];omega
theorem jy.get:∀ {j:Nat}{cap:LN}{k i:Nat},jy X N' scope cl j cap->cap[k]? = some i->∃x,N'[j+k]? = some x/\X.N[i]? = some x/\(X.env.kindOf x=some .cell∨X.env.kindOf x=some .free) /\
  ((relabel scope X.env).names.lookup x=some .cell∨(relabel scope X.env).names.lookup x=some .free)/\cl.lookup x=X.env.cells.lookup x
 |_,_,_,_,.nil _,e=>by simp at e
 |j,_,0,_,.cons h1 h2 h3 h4 h5 _,e=>by simp at e;subst e;exact⟨_,h1,h2,h3,h4,h5⟩
 |j,_,k+1,i,.cons _ _ _ _ _ t,e=>by
  obtain⟨x,q,r⟩:=t.get (k:=k) (i:=i) (by simpa using e);exact⟨x,by rw[show j+(k+1)=j+1+k by omega];exact q,r⟩
structure CompSc (X:Cx)(scope:Scope)(cl:List (Str×Addr)):Prop where
 clos:closureFor scope X.env=pure cl
 nocell:∀y∈scope.names,y.2≠.cell
 kind:scope.kind=.function
 names:∀y∈scope.names,y.2=.local->scope.names.lookup y.1=some .local
 sub:∀x c,cl.lookup x=some c->X.env.cells.lookup x=some c
 has:∀x,((relabel scope X.env).names.lookup x=some .cell∨(relabel scope X.env).names.lookup x=some .free)->∃c,cl.lookup x=some c
noncomputable def cR:List (Str×NameKind)->List (Str×Addr)->List (Str×Addr)->List (Str×Addr)
 |[],_,cs=>cs
 | (n,k)::r,cells,cs=>cR r cells (if k == .free then (match cells.lookup n with|some c=>(n,c)::cs|none=>cs)else cs)
def uy:∀(names:List (Str×NameKind))(cs:List (Str×Addr)),(∀y∈names,y.2=.free->(env.cells.lookup y.1).isSome=true) ->
    (do let mut cs:=cs
        for (name,kind)in names do
          if kind == .free then cs:=(name,←cellOf env name)::cs
        return cs:Sem (List (Str×Addr)))=pure (cR names env.cells cs):=by
  intro names;induction names with
  |nil=>intro cs _;rfl
  |cons y r O=>
    intro cs h;obtain⟨n,k⟩:=y;have G:=λcs=>O cs λy hy=>h y (mZ _ hy);by_cases hk:k=.free
    . subst hk;have hc:=h (n,.free) mX rfl;cases q:env.cells.lookup n with
      |none=>rw[q]at hc;cases hc
      |some c=>
        have M:cR ((n,.free)::r) env.cells cs=cR r env.cells ((n,c)::cs):=by
          rw[cR,q];rfl
        rw[M,←G ((n,c)::cs)];have T:cellOf env n=pure c:=by unfold cellOf;rw[q]
        simp only[forIn_cons,beq_self_eq_true,if_true,T];rfl
    . have hb:(k == NameKind.free)=false:=by simpa using hk
      have M:cR ((n,k)::r) env.cells cs=cR r env.cells cs:=by rw[cR,hb];rfl
      rw[M,←G cs];simp only[forIn_cons,hb,uW,if_false];rfl
theorem kU:∀(names:List (Str×NameKind))(cs:List (Str×Addr)),(∀y d,cs.lookup y=some d->cells.lookup y=some d)->(cR names cells cs).lookup x=some c->cells.lookup x=some c
 |[],cs,h,e=>h x c e
 | (n,k)::r,cs,h,e=>by
  rw[cR]at e;refine kU r _ (λy d q=>?_) e;split at q
  ·split at q
   ·rename_i M G;rw[lookup_cons]at q;split at q
    ·rename_i hy;cases q
     rw[eq_of_beq hy];exact G
    ·exact h y d q
   ·exact h y d q
  ·exact h y d q
theorem mE:∀(names:List (Str×NameKind))(cs:List (Str×Addr)),(cs.lookup x).isSome=true->((cR names cells cs).lookup x).isSome=true
 |[],cs,h=>h
 | (n,k)::r,cs,h=>by
  rw[cR];refine mE r _ ?_;split
  ·split
   ·rw[lookup_cons];split
    ·rfl
    ·exact h
   ·exact h
  ·exact h
theorem kW:∀(names:List (Str×NameKind))(cs:List (Str×Addr)),(x,NameKind.free)∈names->(cells.lookup x).isSome=true->((cR names cells cs).lookup x).isSome=true
 | (n,k)::r,cs,hm,hc=>by
  rw[cR];rcases vP hm with e|e
  ·cases e
   refine mE r _ ?_;cases q:cells.lookup x with
   |none=>rw[q]at hc;cases hc
   |some c=>simp
  ·exact kW r _ e hc
theorem ip {α:Type}{x:Str}{k:α}:∀ {l:List (Str×α)},l.lookup x=some k->(x,k)∈l
 | (n,j)::r,h=>by
  rw[lookup_cons]at h;split at h
  ·rename_i e;cases h
   rw[eq_of_beq e];exact mX
  ·exact mZ _ (ip h)
def BL {X:Cx}{scope:Scope}(h1:∀y∈scope.names,y.2≠.cell)(h2:scope.kind=.function)(h3:∀y∈scope.names,y.2=.local->scope.names.lookup y.1=some .local)(G:(scope.names.all λy=>!(y.2 == NameKind.free) || (X.env.cells.lookup y.1).isSome)=true):
  CompSc X scope (cR scope.names X.env.cells []):=by
 have h4:∀y∈scope.names,y.2=.free->(X.env.cells.lookup y.1).isSome=true:=λy hy e=>by
  have:=uS G y hy;rw[e]at this;simpa using this
 have frees:∀x,((relabel scope X.env).names.lookup x=some .cell∨(relabel scope X.env).names.lookup x=some .free)->(x,NameKind.free)∈scope.names:=λx h=>by
  have:∃k,(x,k)∈(relabel scope X.env).names/\(k=.cell∨k=.free):=by
   rcases h with h|h
   ·exact⟨_,ip h,.inl rfl⟩
   ·exact⟨_,ip h,.inr rfl⟩
  obtain⟨k,hm,hk⟩:=this;obtain⟨⟨n,j⟩,hj,e⟩:=mem_map.mp hm;dsimp only at e;split at e
  ·rename_i hc;rw[vD,vD]at hc;cases e
   rw[←eq_of_beq hc.1.1];exact hj
  ·cases e
   rcases hk with rfl|rfl
   ·exact absurd rfl (h1 _ hj)
   ·exact hj
 exact⟨uy scope.names [] h4,h1,h2,h3,λx c e=>kU scope.names [] (λy d q=>by cases q) e,λx h=>by
  have:=kW (x:=x) scope.names [] (frees x h) (h4 _ (frees x h) rfl);exact isSome_iff_exists.mp this⟩
def zn {scope:Scope}{cells:List (Str×Addr)}{x:Str}(h:(x,NameKind.free)∈scope.names)(hc:(cells.lookup x).isSome=true):(cR scope.names cells []).lookup x=cells.lookup x:=by
 obtain⟨c,e⟩:=isSome_iff_exists.mp (kW (x:=x) scope.names [] h hc);rw[e,kU scope.names [] (λy d q=>by cases q) e]
noncomputable def uz (nT:Nat)(cap:LN)(σ:St):St:=List.replicate nT none++cap.map λi=>(σ[i]?).join
noncomputable def gL (nT:Nat)(cap:LN)(ρ:Env):Env:=List.replicate nT none++cap.map λi=>match ρ[i]? with|some (some (d,_))=>some (d,false)|_=>none
def sy {α:Type}{nT:Nat}{cap:LN}{f:Nat->Option α}{j:Nat}{v:α}(h:(List.replicate nT none++cap.map f)[j]? = some (some v)):∃k i,j=nT+k/\cap[k]? = some i/\f i=some v:=by
 by_cases hj:j<nT
 ·rw[getElem?_append_left (by simpa using hj),getElem?_replicate,if_pos hj]at h;cases h
 ·rw[List.getElem?_append_right (by simpa using Nat.not_lt.mp hj),length_replicate,vB]at h;obtain⟨i,h1,h2⟩:=oY h;exact⟨j - nT,i,by omega,h1,h2⟩
def zo {α:Type}{nT:Nat}{cap:LN}{f:Nat->Option α}{k i:Nat}{v:α}(h1:cap[k]? = some i)(h2:f i=some v):(List.replicate nT none++cap.map f)[nT+k]? = some (some v):=by
 rw[List.getElem?_append_right (by simp),length_replicate,vB,Nat.add_sub_cancel_left,h1];simp[h2]
def dz.caps {K:Frag}{B:Hp}{σ:St}{ρ:Env}{nT:Nat}{cap:LN}(h:dz K B σ ρ):dz K B (uz nT cap σ) (gL nT cap ρ):=⟨h.tb,λj d b q=>by
 obtain⟨k,i,rfl,h1,h2⟩:=sy q;split at h2
 ·rename_i d' b' e;cases h2
  obtain⟨v,G,M⟩:=h.at' i _ _ e;exact⟨v,zo h1 (by rw[G];rfl),M⟩
 ·cases h2⟩
noncomputable def e5 (tg:FG)(c:FT)(fe:FE)(ρ:Env):LD->Option LD
 |[]=>some []
 |d::r=>(tg d ρ).bind λG=>(c G).bind λb=>if b=true then (fe G).bind λx=>(e5 tg c fe ρ r).map (x.1 :: ·)else e5 tg c fe ρ r
@[simp] def CZ (tg:FG)(c:FT)(fe:FE)(ρ:Env):e5 tg c fe ρ []=some []:=by rw[e5]
@[simp] def ri (tg:FG)(c:FT)(fe:FE)(ρ:Env)(d:D)(r:LD):e5 tg c fe ρ (d::r)=(tg d ρ).bind λG=>(c G).bind λb=>if b=true then (fe G).bind λx=>(e5 tg c fe ρ r).map (x.1 :: ·)else e5 tg c fe ρ r:=by rw[e5]
@[simp] def cD (fi:FA)(nT:Nat)(cap:LN)(tg:FG)(c:FT)(fe:FE):FE:=λρ=>(fi ρ).bind λaq=>if aq.length<=sizeLine then (e5 tg c fe (gL nT cap ρ) aq).map λds=>(.lst ds,true)else none
def A9 (K:Frag)(n:Nat)(tg:FG)(g:TG):Prop:=∀(B H:Hp)(σ:St)(ρ M:Env)(v:V)(d:D)(Q:St->Hp->Prop),(∀i,i<n->ρ[i]? = some none)->dz K B σ ρ->aJ B H->Is K B v d->tg d ρ=some M ->
 ρ.length=σ.length->(∀G,dz K B G M->(∀O,dz K O σ ρ->dz K O G ρ)->ρ.length=G.length->Q G H)->g v σ H Q
def pj {K:Frag}{n i:Nat}(hi:i<n):A9 K n (eI i) (g9 i):=by
 intro B H σ ρ O v d Q cl rep s h e hl k;cases e
 have M:i<σ.length:=by
  have:=(vV (cl i hi)).1;omega
 refine k _ ⟨rep.tb,λj e b q=>?_⟩ ?_ (by simpa using hl)
 ·rcases bu q with⟨rfl,p⟩|⟨ne,p⟩
  ·cases p
   exact⟨v,by simp[M],h⟩
  ·obtain⟨w,h1,h2⟩:=rep.at' j e b p;exact⟨w,by rw[vC ne];exact h1,h2⟩
 ·intro T G;refine⟨G.tb,λj e b q=>?_⟩;obtain⟨w,h1,h2⟩:=G.at' j e b q;have ne:i≠j:=λz=>by subst z;rw[cl i hi]at q;cases q
  exact⟨w,by rw[vC ne];exact h1,h2⟩
def JC (X:Cx)(G:QD)(c:FT):Prop:=∀(aa:AO)(s:Shared)(σ:St)(H:Hp)(Q:Bool->Hp->Prop),Inv X aa σ H s->nU X.K c σ H Q ->
 wq X (forIn G true λc r=>if r=true then do let ok ←isTrue c X.env (eval c X.env);pure (ForInStep.yield ok)else pure (ForInStep.yield r)) (TP X aa σ Q) X.xe s
@[simp] def fT:FT:=λ_=>some true
def gl:JC X [] fT:=by
 intro aa s σ H Q I h;obtain⟨B,ρ,c,G,rep,e,q⟩:=h;cases e
 exact wpAny_tests_nil ⟨H,I,q H (.refl H)⟩
def wG (h:JT X e f):JC X [e] f:=λaa s σ H Q I q=>wpAny_tests_one (h aa s σ H Q I q)
inductive CI (Y:Cx)(tn:Nat->Heap->Prop)(fp:List Addr)(N1 H2:Hp)(κ:Env)(a:Addr)(l:List D->Option (List D))(aq ds:List D)(s:Shared):Nat->Prop
 |mk (i:Nat) (N:Hp) (vs:List V) (es r:List D) (σ:St) (H:Hp) (I:Inv Y [] σ H s) (ti:tn i s.heap) (hn:∀b∈fp,H b=none) (hi:i<=aq.length) (rp:dz Y.K N1 σ κ) (hl:κ.length=σ.length)
   (x:Ext N1 N H2 H) (n0:N a=none) (h0:H a=some (.lst vs)) (vl:vs.length<=i) (iv:IsL Y.K N vs es) (er:l (aq.drop i)=some r) (ed:es++r=ds):CI Y tn fp N1 H2 κ a l aq ds s (aq.length - i)
def Ext.both (x:Ext N1 N H2 H)(y:Ext N1 N' H H'):Ext N (join N N') H H'/\aJ N' (join N N'):=by
 refine⟨⟨y.hh,cm,λa o e=>?_,λa o e=>?_⟩,λa o e=>?_⟩
 ·cases z:N a with
  |some G=>rw[cm _ _ z]at e;cases e;exact y.hh _ _ (x.nh _ _ z)
  |none=>rw[cz z]at e;exact y.nh _ _ e
 ·cases z:N a with
  |some G=>rw[cm _ _ z]at e;cases e;exact .inl rfl
  |none=>
   rw[cz z]at e;exact(y.new a o e).elim (λM=>by rw[x.bn _ _ M]at z;cases z) .inr
 ·exact(y.new a o e).elim (λz=>cm _ _ (x.bn _ _ z)) λz=>by rw[cz (x.nh.free z)];exact e
def Ext.off (x:Ext B N H H')(h:B a=none)(h':H a=some o):N a=none:=by
 cases z:N a with
 |none=>rfl
 |some u=>
  rcases x.new _ _ z with z|z
  ·rw[h]at z;cases z
  ·rw[h']at z;cases z
def u0 {Y:Cx}(O:Y.calm=true)(hE:∀x s,¬Y.xe x s)(hg:PG Y tg g)(EB:A9 Y.K nT kL g)(hc:JC Y sg fc)(he:JE Y oV fe)(T:Turn Y.prog Y.w Y.K tg J fp it tn)(EC:∀i,i<nT->κ[i]? = some none)
  (J1:kq Y.K J N1 aq) (hsz:aq.length<=sizeLine) (hD:H2 a=none) (GO:∀H',(∀b∈fp,H' b=none)->∀b∈fp,iJ Y [] H' b)
  (hR:∀s4 M H' N vs,Inv Y [] M H' s4->Ext N1 N H2 H'->N a=none->H' a=some (.lst vs)->IsL Y.K N vs ds->R (.ok .next) s4) (h:CI Y tn fp N1 H2 κ a (e5 kL fc fe κ) aq ds s aq.length):
  codeAny (model Y.prog Y.w) Y.A (.compLoop (.ListComp oV [⟨tg,dA,sg,0⟩] scope pos) 0 (.ref it) (.ref a) Y.env) R s:=by
 refine nW hE (λn s=>CI Y tn fp N1 H2 κ a (e5 kL fc fe κ) aq ds s n) (λn s' h=>?_) _ h;obtain⟨i,N,vs,es,r,M,H',I',ti,hn,hi,rp,lZ,x,Fv,ED,EE,EF,er,Fw⟩:=h;have sH:aJ N1 H':=x.bn.trans x.nh;by_cases wa:i<aq.length
 ·obtain⟨go,yl⟩:=(J1 i H' sH).1 aq[i] (by simp[wa]);refine bN (T.item Y rfl rfl rfl O i [] s' M H' Y.xe I' (GO _ hn) ti go) λq s4 ⟨u,eu,hq⟩=>?_;subst eu;refine bN hq λ_ s5 ⟨xv,H5,I5,rx,y5,t5,GG⟩=>?_;obtain⟨N5,x5,i5⟩:=yl xv H5 y5;obtain⟨x6,c5⟩:=x.both x5;have HU:(join N N5) a=none:=x6.off Fv ED;have Fx:aJ (join N N5) H5:=x6.nh;rw[List.drop_eq_getElem_cons wa]at er;unfold e5 at er;obtain⟨ρ1,e1,er⟩:=oX er;obtain⟨b,e2,er⟩:=oX er;have se:∀(s9:Shared)(U:St)(H9 N9:Hp)(EG:LV)(Fz r9:LD),Inv Y (j0 fp s5.heap) U H9 s9->dz Y.K N1 U κ->κ.length=U.length->Ext N1 N9 H2 H9->N9 a=none->H9 a=some (.lst EG) ->
    EG.length<=i+1->IsL Y.K N9 EG Fz->e5 kL fc fe κ (aq.drop (i+1))=some r9->Fz++r9=ds->∃m,m<aq.length - i/\CI Y tn fp N1 H2 κ a (e5 kL fc fe κ) aq ds s9 m:=λs9 U H9 N9 EG Fz r9 I9 J5 l9 x9 n9 h9 v9 i9 J6 J7=>
   ⟨_,by omega,i+1,N9,EG,Fz,r9,U,H9,I9.pins_of λp hp=>by simp at hp,T.keep _ _ _ t5 λb hb o e=>(I9.pin (b,o) (mY _ (gh hb e))).1,λb hb=>by
    obtain⟨o,e,d⟩:=T.obj _ _ t5 b hb;exact(I9.pin (b,o) (mY _ (gh hb e))).2.1,wa,J5,l9,x9,n9,h9,v9,i9,J6,J7⟩
  refine bN (hg (j0 fp s5.heap) s5 M H5 xv u (λG H6=>H6=H5/\dz Y.K (join N N5) G ρ1/\dz Y.K N1 G κ/\κ.length=G.length) (I5.pinned (GO _ GG) (T.obj _ _ t5)) rx
   (EB (join N N5) H5 M κ ρ1 xv aq[i] _ EC (rp.mono (x.bn.trans cm)) Fx (i5.mono c5) e1 lZ λσ1 r1 r2 l1=>⟨rfl,r1,r2 N1 rp,l1⟩)) λ_ s6 ⟨G,H6,I6,eH,HV,HW,l6⟩=>?_
  subst eH;have GP:H6 a=some (.lst vs):=x5.hh _ _ ED;refine bN (hc _ s6 G H6 (λc H7=>c=b/\aJ H6 H7) I6 ⟨join N N5,ρ1,b,Fx,HV,e2,λH7 h7=>⟨rfl,h7⟩⟩) λok s7 ⟨H7,I7,eb,h7⟩=>?_;subst eb;have x7:Ext N1 (join N N5) H2 H7:=(x.trans x6).trans (.grow Fx h7);cases ok with
  |false=>
   rw[if_neg (by decide)]at er ⊢;exact se s7 G H7 (join N N5) vs es r I7 HW l6 x7 HU (h7 _ _ GP) (Nat.le_succ_of_le EE) (EF.mono cm) er Fw
  |true=>
   rw[if_pos rfl]at er ⊢;obtain⟨y,e3,er⟩:=oX er;obtain⟨r',e4,er⟩:=oY er;subst er;refine bN (he _ s7 G H7 (λv H8=>∃N8,Ext (join N N5) N8 H7 H8/\Is Y.K N8 v y.1) I7 ⟨join N N5,ρ1,y.1,y.2,Fx.trans h7,HV,e3,λv H8 N8 x8 i8 _=>⟨N8,x8,i8⟩⟩) λw8 s8 ⟨v8,H8,I8,r8,N8,x8,i8⟩=>?_;refine bN (j6 _ s8 G H8 (.ref a) [v8] (.ref a) [w8] (λ_ H9=>H9=upd H8 a (.lst (vs++[v8]))) I8 rfl (.cons r8 .nil) ⟨_,vs,v8,rfl,rfl,x8.hh _ _ (h7 _ _ GP),by omega,rfl⟩) λ_ s9 ⟨_,H9,I9,_,e9⟩=>?_;subst e9;have HX:=x8.off HU (h7 _ _ GP);exact se s9 G _ N8 (vs++[v8]) (es++[y.1]) r' I9 HW l6 ((x7.trans x8).upd hD HX) HX a8 (by rw[vA,length_singleton];omega) ((EF.mono (cm.trans x8.bn)).append (.cons i8 .nil)) e4 (by rw[append_assoc];exact Fw)
 ·obtain rfl:i=aq.length:=by omega
  rw[drop_eq_nil_of_le (vT _)]at er;cases er
  rw[append_nil]at Fw;subst Fw;refine bN (T.done Y rfl rfl rfl O aq.length [] s' M H' Y.xe I' (GO _ hn) ti ((J1 _ H' sH).2 (vT _))) λq s4 ⟨hq,I9⟩=>?_;subst hq;exact hR s4 M H' N vs I9 x Fv ED EF
def kX {X:Cx}(EH:X.calm=true){tg dA oV:Expr}{sg:QD}{scope:Scope}{pos:Pos}{cl:List (Str×Addr)}{N':LS}{nT:Nat}{cap:LN}{kL:FG}{g:TG}{fc:FT}{fe:FE}
  (S:CompSc X scope cl) (cp:jy X N' scope cl nT cap)
  (hg:∀C s H fp,PG (fJ X N' scope cl C s H fp) tg g) (EB:A9 X.K nT kL g) (hc:∀C s H fp,JC (fJ X N' scope cl C s H fp) sg fc) (he:∀C s H fp,JE (fJ X N' scope cl C s H fp) oV fe)
  {aa:AO}{σ:St}{H2:Hp}{s2:Shared}{it:Addr}{fp:List Addr}{tn:Nat->Heap->Prop}{J:It}{N1:Hp}{ρ:Env}{aq ds:LD}{E:QV}
  (I2:Inv X aa σ H2 s2) (T:Turn X.prog X.w X.K tg J fp it tn) (Au:tn 0 s2.heap) (f2:∀b∈fp,iJ X aa H2 b)
  (rep:dz X.K N1 σ ρ) (sN:aJ N1 H2) (J1:kq X.K J N1 aq) (hsz:aq.length<=sizeLine) (ec:e5 kL fc fe (gL nT cap ρ) aq=some ds) {RR:Value->Addr->Result->Shared->Prop}
  (J8:∀(Dd C:Addr)(s':Shared)(H' N:Hp)(vs:LV)(m:SV),H2 Dd=none->Inv X aa σ H' s'->s'.heap.Ns C m->iJ X aa H' C->Ext N1 N H2 H'->N Dd=some (.lst vs)->IsL X.K N vs ds->RR (.ref Dd) C (.ok .next) s'):
  wq X (newList []) (λqM U=>wq X (newFunctionEnv scope X.env.globals cl [] X.env.qual none .none (some X.env)) (λEI s₄=>
   codeAny (model X.prog X.w) X.A (.compStart (.ListComp oV [⟨tg,dA,sg,0⟩] scope pos) 0 (.ref it) qM { EI with scope:=relabel scope X.env }) (RR qM EI.locals) s₄) E U) E s2:=by
 refine wpAny_newObj_type (wpAny_newFunctionEnv S.nocell (by intro y hy;simp at hy) (λh₁ M O=>?_) S.kind);dsimp only at M O ⊢;have hD:H2 s2.heap.objs.size=none:=I2.fresh;have I3:Inv X aa σ (upd H2 s2.heap.objs.size (.lst [])) { s2 with heap:=s2.heap.push { cls:=.type "list",dict:=none,data:=.seq ([]:LU).toArray } }:=I2.lnew (t':=s2.toks) (ys:=[]) (its:=[]) .nil (uO _);generalize hH3:s2.heap.push { cls:=.type "list",dict:=none,data:=.seq ([]:LU).toArray }=g3 at M O I3 ⊢;have hC:g3.objs.size=s2.heap.objs.size+1:=by rw[←hH3,Heap.size_push]
 have Aw:∀b o,s2.heap.get? b=some o->g3.get? b=some o:=λb o e=>hH3 ▸ vZ _ e;have G:∀b o,g3.get? b=some o->h₁.get? b=some o:=λb o e=>O.extBut b o (vS (vX e)) (vZ _ e);have J9:∀b o,g3.get? b=some o->b≠g3.objs.size:=λb o e=>vS (vX e);have HY:∀b∈fp,∃o,s2.heap.get? b=some o:=λb hb=>let ⟨o,e,_⟩:=T.obj 0 s2.heap Au b hb;⟨o,e⟩;have JB:∀b∈fp,b≠s2.heap.objs.size:=λb hb=>let ⟨o,e⟩:=HY b hb;vS (vX e);have HZ:∀b∈fp,b≠g3.objs.size:=λb hb=>let ⟨o,e⟩:=HY b hb;J9 b o (Aw b o e);have Ia:∀x c,X.env.cells.lookup x=some c->c≠g3.objs.size:=λx c e=>by
  obtain⟨v,z⟩:=I3.cell x c e;exact vS z.lt
 have JD:(upd H2 s2.heap.objs.size (HO.lst [])) g3.objs.size=none:=I3.hok.fresh (vT _);have stk:∀b∈vy X.stack,∃o,s2.heap.get? b=some o:=λb hb=>by
  obtain⟨_,o,ho,_⟩:=(I2.stack).mem hb;exact⟨o,ho⟩
 -- the block's context
 let Y:Cx:=fJ X N' scope cl g3.objs.size { s2 with heap:=g3 } (upd H2 s2.heap.objs.size (.lst [])) fp;have ok:Y.Ok:=by
  refine⟨I2.ok.mod,?_,I2.ok.glob,I2.ok.blt,vT _,λx y c e1 e2=>I2.ok.inj x y c (S.sub x c e1) (S.sub y c e2),λx h=>S.has x h,λx c h=>absurd h uY,I2.ok.hd,I2.ok.frames,.inl rfl,λb hb=>⟨HZ b hb,λx c e=>(f2 b hb).2.2.2.2.1 x c (S.sub x c e)⟩,λb o e=>?_,?_,λb o e hb=>?_,λb hb hz=>?_,I3.stack,λb hb=>I3.stkFree b hb⟩
  ·show(relabel scope X.env).kind=.function;exact S.kind
  ·exact I3.bs b o e
  ·exact vR I3.ok.bsz I3.sz
  ·have h1:=(f2 b hb).2.2.2.1;rcases h1 with z|z
   ·exact I2.ok.noex b o e z
   ·exact absurd (vQ (vX e) (vR I2.ok.bsz z)) (Nat.lt_irrefl _)
  ·rcases vP (I2.stkSub b hz)with z|z
   ·exact(f2 b hb).2.1 z
   ·exact(f2 b hb).2.2.1 z
 have I4:Inv Y [] (uz nT cap σ) (upd H2 s2.heap.objs.size (.lst [])) { s2 with heap:=h₁,toks:=s2.toks+([]:List (Str×Value)).length }:=by
  refine⟨ok,rfl,I2.bare,Un.kept G,⟨_,M,λj x v e1 e2 e3=>?_⟩,λx c e=>?_,JD,λx c e=>I3.freeC x c (S.sub x c e),λp hp=>absurd (show p∈[]from hp) not_mem_nil,I3.hok.kept G,?_⟩
  ·obtain⟨k,i,rfl,h1,h2⟩:=sy e2;obtain⟨y,g1,g2,Ib,g4,g5⟩:=cp.get h1;have Ic:N'[nT+k]? = some x:=e1;rw[g1]at Ic;cases Ic;have EA:σ[i]? = some (some v):=by
    cases q:σ[i]? with
    |none=>rw[q]at h2;cases h2
    |some z=>rw[q]at h2;have:z=some v:=h2;rw[this]
   obtain⟨m,_,hl⟩:=I3.loc;obtain⟨u,r,l⟩:=hl i _ v g2 EA (Ib.elim (λz=>.inr (.inl z)) λz=>.inr (.inr z));refine⟨u,r,?_⟩;rcases l with⟨l,_⟩|⟨_,c,lc,ic⟩
   ·rcases Ib with z|z<;>(rw[z]at l;cases l)
   ·refine .inr ⟨g4,c,by show cl.lookup _=some c;rw[g5];exact lc,?_⟩;obtain⟨o,ho,hd⟩:=ic;exact⟨o,G _ _ ho,hd⟩
  ·obtain⟨v,o,ho,hd⟩:=I3.cell x c (S.sub x c e);exact⟨v,o,G _ _ ho,hd⟩
  ·show(uz nT cap σ).length=N'.length;unfold uz;rw[cp.len];simp
 have vx:∀U:Shared,U={ s2 with heap:=h₁,toks:=s2.toks+([]:List (Str×Value)).length }->codeAny (model Y.prog Y.w) Y.A (.compLoop (.ListComp oV [⟨tg,dA,sg,0⟩] scope pos) 0 (.ref it) (.ref s2.heap.objs.size) Y.env) (RR (.ref s2.heap.objs.size) g3.objs.size) U:=by
  rintro U rfl;refine u0 (Y:=Y) EH (λ_ _ z=>z) (hg _ _ _ _) EB (hc _ _ _ _) (he _ _ _ _) T (λi hi=>?_) J1 hsz hD (λH' hn b hb=>⟨hn b hb,HZ b hb,ok.exfs b hb,.inl hb,λx c e=>(f2 b hb).2.2.2.2.1 x c (S.sub x c e),λp hp=>absurd (show p∈[]from hp) not_mem_nil⟩) (λs4 σ' H' N vs I9 x Fv ED EF=>?_)
   ⟨0,N1,[],[],ds,uz nT cap σ,_,I4,T.keep _ _ _ Au λb hb o e=>G _ _ (Aw _ _ e),λb hb=>?_,uO _,rep.caps,?_,(Ext.refl sN).upd hD (sN.free hD),sN.free hD,a8,uO _,.nil,by simpa using ec,rfl⟩
  ·unfold gL;rw[getElem?_append_left (by simpa using hi),getElem?_replicate,if_pos hi]
  ·obtain⟨m,hm,_⟩:=I9.loc;have k:aJ N (upd N s2.heap.objs.size (.lst vs)):=λa o e=>by rw[aE (λz=>by subst z;rw[Fv]at e;cases e)];exact e
   refine J8 s2.heap.objs.size g3.objs.size s4 H' (upd N s2.heap.objs.size (.lst vs)) vs m hD (I2.call' (ch:=fp) I9.os ((Un.laid Aw (vT _) hD).trans I9.base) I9.hok I9.bare λb hb=>⟨(f2 b hb).2.2.2.1,(f2 b hb).2.1,(f2 b hb).2.2.2.2.1,(f2 b hb).2.2.2.2.2⟩) hm (I2.fpOk (by rw[hC];exact le_succ _) I9.free) ⟨x.hh,x.bn.trans k,λa o e=>?_,λa o e=>?_⟩ a8 (EF.mono k)
   ·by_cases z:a=s2.heap.objs.size
    ·subst z;rw[a8]at e;cases e;exact ED
    ·rw[aE z]at e;exact x.nh _ _ e
   ·by_cases z:a=s2.heap.objs.size
    ·subst z;exact .inr hD
    ·rw[aE z]at e;exact x.new _ _ e
  ·rw[aE (JB b hb)];exact(f2 b hb).1
  ·unfold gL uz;simp
 exact codeAny_compStart_list (vx _ rfl) (T.self _ 0 _ _ _ (T.keep _ _ _ Au λb hb o e=>G _ _ (Aw _ _ e)) (vx _ rfl))
def zp (G:X.calm=true) 
  (S:CompSc X scope cl) (cp:jy X N' scope cl nT cap) (hi:JI X tg dA fi)
  (hg:∀C s H fp,PG (fJ X N' scope cl C s H fp) tg g) (O:A9 X.K nT kL g) (hc:∀C s H fp,JC (fJ X N' scope cl C s H fp) sg fc) (he:∀C s H fp,JE (fJ X N' scope cl C s H fp) oV fe)
  (hs:∀x,foldedSetIterable dA X.env x=pure x:=by intro _;rfl):
  JE X (.ListComp oV [⟨tg,dA,sg,0⟩] scope pos) (cD fi nT cap kL fc fe):=by
 intro aa s σ H Q I h;obtain⟨B,ρ,d,b,sB,rep,e,q⟩:=h;obtain⟨aq,ei,e⟩:=oX e;have hsz:aq.length<=sizeLine:=Decidable.byContradiction λz=>by rw[if_neg z]at e;cases e
 rw[if_pos hsz]at e;obtain⟨ds,ec,e⟩:=oY e;cases e
 rw[eval_ListComp];refine wpAny_comprehension_free (use:=none) rfl hs S.clos S.kind S.names (bN (hi aa s σ H (λJ H2=>∃N1,Ext B N1 H H2/\kq X.K J N1 aq) I ⟨B,ρ,aq,sB,rep,ei,λJ H2 N1 M U=>⟨N1,M,U⟩⟩) λv s1 h1=>bN h1 λHQ s2 h2=>?_);obtain⟨it,fp,tn,J,H2,e,I2,T,Au,f2,N1,M,U⟩:=h2;subst e;refine kX G S cp hg O hc he I2 T Au f2 (rep.mono M.bn) M.nh U hsz ec (RR:=λqM C=>compPost (model X.prog X.w) X.A X.xe none (EP X aa σ Q) qM C) ?_;intro Dd C s' H' N vs m hD I' hm fC x hN hl;refine⟨m,hm,λh' EJ=>⟨.ref Dd,H',?_,rfl,q _ H' N (M.trans x) (.lst (dZ.of hN) hl) λ_=>⟨Dd,vs,ds,rfl,rfl,M.hh.free hD,hN,hl⟩⟩⟩;obtain⟨c0,c1,c2,c3,c4,c5⟩:=fC;exact I'.turned (t':=s'.toks) (λb o hb e=>(EJ.2 b hb).trans e) c0 c1 c3 c4 c5
def zq (M:X.calm=true) 
  (hN:X.N.Nodup) (JF:X.N[i]? = some y) (hy:X.env.kindOf y=some .local)
  (GQ:swapsWith (.ListComp oV [⟨tg,G,O,0⟩] scope pos) (some (.Name y py)) spos.line X.env=pure true)
  (S:CompSc X scope cl) (cp:jy X N' scope cl nT cap) (hi:JI X tg G fi)
  (hg:∀C s H fp,PG (fJ X N' scope cl C s H fp) tg g) (EB:A9 X.K nT kL g) (hc:∀C s H fp,JC (fJ X N' scope cl C s H fp) O fc) (he:∀C s H fp,JE (fJ X N' scope cl C s H fp) oV fe)
  (hs:∀x,foldedSetIterable G X.env x=pure x:=by intro _;rfl):
  JS X (.Assign [.Name y py] (.ListComp oV [⟨tg,G,O,0⟩] scope pos) spos) (bf i (cD fi nT cap kL fc fe)):=by
 intro aa s σ H E I h;have h2:qS (tD X.K (cD fi nT cap kL fc fe)) (g9 i) E σ H:=sx h;obtain⟨B,ρ,d,b,sB,rep,e,q⟩:=h2;obtain⟨aq,ei,e⟩:=oX e;have hsz:aq.length<=sizeLine:=Decidable.byContradiction λz=>by rw[if_neg z]at e;cases e
 rw[if_pos hsz]at e;obtain⟨ds,ec,e⟩:=oY e;cases e
 rw[exec_Assign_Name_used _ _ _ _ GQ];refine wX (wpAny_standAt (wX ?_));show wpAny _ _ (do let _ ←comprehension (.ListComp oV [⟨tg,G,O,0⟩] scope pos) scope X.env _ (newList []) false (eval G X.env) (some (assign (.Name y py) X.env))) _ _ s;refine wX (wpAny_mono (wpAny_comprehension_free (use:=some (assign (.Name y py) X.env)) (Q:=λ_ U=>SP X aa E .next U) rfl hs S.clos S.kind S.names
  (bN (hi aa s σ H (λJ H2=>∃N1,Ext B N1 H H2/\kq X.K J N1 aq) I ⟨B,ρ,aq,sB,rep,ei,λJ H2 N1 x1 j1=>⟨N1,x1,j1⟩⟩) λv s1 h1=>bN h1 λHQ s2 h2=>?_)) (λ_ U hq=>wY (wY hq)) λ_ _ e=>e)
 obtain⟨it,fp,tn,J,H2,e,I2,T,Au,f2,N1,x1,j1⟩:=h2;subst e;refine kX M S cp hg EB hc he I2 T Au f2 (rep.mono x1.bn) x1.nh j1 hsz ec (RR:=λqM C=>compPost (model X.prog X.w) X.A X.xe (some (assign (.Name y py) X.env)) (λ_ U=>SP X aa E .next U) qM C) ?_;intro Dd C U H' N vs m hD I' hm fC x Ie hl;show wpAny _ _ (assign (.Name y py) X.env (.ref Dd)) _ _ U;obtain⟨c0,c1,c2,c3,c4,c5⟩:=fC;refine wpAny_assign_Name (mz I' hN JF (.inl hy) (r:=show aP (.ref Dd) (.ref Dd)from rfl) (λs9 I9 ⟨a,sb,ha⟩=>?_) (.inr hy));have nC:C≠a:=by
  rcases ha with z|z
  ·rw[z];exact c1
  ·exact λw=>c4 y a z w.symm
 refine⟨m,hm.sameBut sb nC,λh' EJ=>⟨_,H',?_,q _ H' N (x1.trans x) (.lst (dZ.of Ie) hl) λ_=>⟨Dd,vs,ds,rfl,rfl,x1.hh.free hD,Ie,hl⟩⟩⟩;exact I9.turned (t':=s9.toks) (λb o hb e=>(EJ.2 b hb).trans e) c0 c1 c3 c4 c5
section
variable {X:Cx}{a b c e:Expr}{pos:Pos}
def PE.to (h:PE X e t)(k:∀σ H Q,t' σ H Q->t σ H Q):PE X e t':=λaa s σ H Q I q=>h aa s σ H Q I (k σ H Q q)
def PT.to (h:PT X e t)(k:∀σ H Q,t' σ H Q->t σ H Q):PT X e t':=λaa s σ H Q I q=>h aa s σ H Q I (k σ H Q q)
def PW.to (h:PW X e t)(k:∀σ H Q,t' σ H Q->t σ H Q):PW X e t':=λG aa s σ H Q I q=>h G aa s σ H Q I (k σ H Q q)
def PA.to (h:PA X es t)(k:∀σ H Q,t' σ H Q->t σ H Q):PA X es t':=λpos aa s σ H Q I q=>h pos aa s σ H Q I (k σ H Q q)
def PS.to {st:Stmt}{t t':TS}(h:PS X st t)(k:∀E σ H,t' E σ H->t E σ H):PS X st t':=λaa s σ H E I q=>h aa s σ H E I (k E σ H q)
def me.to {st:List Stmt}{t t':TS}(h:me X st t)(k:∀E σ H,t' E σ H->t E σ H):me X st t':=λaa s σ H E I q=>h aa s σ H E I (k E σ H q)
def PI.to (h:PI X tg it t)(k:∀σ H Q,t' σ H Q->t σ H Q):PI X tg it t':=λaa s σ H Q I q=>h aa s σ H Q I (k σ H Q q)
def u3 {K:Frag}{d:D}{v:V}(i:∀B,Is K B v d){σ:St}{H:Hp}{Q:VK}(h:tD K (fC d) σ H Q):tC v σ H Q:=by
 obtain⟨B,ρ,d',b,s,r,e,q⟩:=h;cases e
 exact q.one s (i B)
def pv (M:X.N[i]? = some x:=by rfl)(O:Dl X.env.scope x:=by first|exact Or.inl rfl|exact Or.inr (Or.inl rfl)|exact Or.inr (Or.inr rfl))(hd:(x == ("__debug__" : Str))=false:=by decide)
  (G:(x == ("__classdict__" : Str))=false:=by decide):PE X (.Name x pos) (mf i):=qP M O hd G
def ah (i:Nat)(G:PE X (.Name x pos) (mf i):=by exact pv):JE X (.Name x pos) (ag i):=PE.to G λ_ _ _ h=>BI h
def ar:JE X (.Constant (.int i) j pos) (fC (.int i)):=PE.to wc λ_ _ _ h=>u3 (λ_=>.int i) h
def eN:JE X (.Constant (.bool i) j pos) (fC (.bl i)):=PE.to Dm λ_ _ _ h=>u3 (λ_=>.bl i) h
def dQ:JE X (.Constant .none j pos) (fC .non):=PE.to Bg λ_ _ _ h=>u3 (λ_=>.non) h
def aw:JE X (.Constant (.str x) j pos) (fC (.str x)):=PE.to Bh λ_ _ _ h=>u3 (λ_=>.str x) h
def zr (G:Gl X x)(hm:X.mg x=some u)(r:aP v u)(i:∀B,Is X.K B v d)(hd:(x == ("__debug__" : Str))=false:=by decide):JE X (.Name x pos) (fC d):=PE.to (kE G hm r hd) λ_ _ _ h=>u3 i h
def aI (G:ci X (binaryOp op) (rD X.K f))(ha:JE X a fa)(hb:JE X b fb):JE X (.BinOp a op b pos) (f2 f fa fb):=PE.to (D1 G ha hb) λ_ _ _ h=>ze h
def wH (G:Dz X (unaryOp op) (Ge X.K f))(ha:JE X a fa):JE X (.UnaryOp op a pos) (f1 f fa):=PE.to (D2 G ha) λ_ _ _ h=>Gf h
def c9 (M:ci X (compareOp G) (rD X.K f))(ha:JE X a O)(hb:JE X b T)(hm:behindInMarks G b=false:=by first|exact kO _ (by decide) (by decide)|rfl):JE X (.Compare a [G] [b] pos) (f2 f O T):=PE.to (yQ M ha hb hm) λ_ _ _ h=>ze h
def nX {K:Frag}{f:FE}{σ:St}{H:Hp}{Q:Bool->Hp->Prop}(h:nU K (br f) σ H Q):tD K f σ H λx H'=>∃k,x=.bl k/\Q k H':=by
 obtain⟨B,ρ,c,s,r,e,q⟩:=h;unfold br at e;split at e
 ·rename_i M b' G;cases e
  refine⟨B,ρ,.bl c,b',s,r,G,λv H' N x i _=>?_⟩;cases i
  exact⟨c,rfl,q H' x.hh⟩
 ·cases e
def aF (G:ci X (compareOp op) (rD X.K f))(ha:JE X a fa)(hb:JE X b fb)(hm:behindInMarks op b=false:=by first|exact kO _ (by decide) (by decide)|rfl):JT X (.Compare a [op] [b] pos) (br (f2 f fa fb)) :=
 PT.to (so G ha hb hm) λ_ _ _ h=>ze (nX h)
def ce (h:JE X e f)(he:∀G,isTrue e X.env G=(do let v ←G;standAt e.pos;holding [v] (truthy v)):=by intro _;rfl):JT X e (br f):=PT.to (Bi h he) λ_ _ _ q=>nX q
@[simp] noncomputable def dR (f g:D->D->OB)(G M O:FE):FE:=λρ=>(G ρ).bind λx=>(M ρ).bind λy=>match f x.1 y.1 with
 |some (.bl true,_)=>(O ρ).bind λz=>g y.1 z.1
 |some (.bl false,_)=>some (.bl false,false)
 |_=>none
def pk {K:Frag}{f g:D->D->OB}{fa fb fc:FE}{σ:St}{H:Hp}{Q:VK}(h:tD K (dR f g fa fb fc) σ H Q):qW (rD K f) (rD K g) (tD K fa) (tD K fb) (tD K fc) σ H Q:=by
 obtain⟨B,ρ,d,b,s,r,e,q⟩:=h;obtain⟨x,ex,e⟩:=oX e;obtain⟨y,ey,e⟩:=oX e;refine⟨B,ρ,x.1,x.2,s,r,ex,λv H1 N1 O i1 _=>⟨N1,ρ,y.1,y.2,O.nh,r.mono O.bn,ey,λv2 H2 N2 G i2 _=>?_⟩⟩;split at e
 ·rename_i b' T;obtain⟨z,ez,e⟩:=oX e;refine⟨N2,x.1,y.1,.bl true,b',G.nh,i1.mono G.bn,i2,T,λv3 H3 N3 M U _=>?_⟩;cases U
  refine⟨true,rfl,?_⟩;rw[if_pos rfl];refine⟨N3,ρ,z.1,z.2,M.nh,r.mono (O.bn.trans (G.bn.trans M.bn)),ez,λv4 H4 N4 x4 i4 _=>⟨N4,y.1,z.1,d,b,x4.nh,i2.mono (M.bn.trans x4.bn),i4,e,?_⟩⟩;exact q.into ((O.trans G).trans (M.trans x4))
 ·rename_i b' T;cases e
  refine⟨N2,x.1,y.1,.bl false,b',G.nh,i1.mono G.bn,i2,T,λv3 H3 N3 M U _=>?_⟩;cases U
  refine⟨false,rfl,?_⟩;rw[if_neg (by decide)];exact(q.into ((O.trans G).trans M)).one M.nh (.bl false)
 ·cases e
def kY (M:ci X (compareOp op) (rD X.K f))(G:ci X (compareOp EK) (rD X.K g))(ha:JE X a fa)(hb:JE X b fb)(hc:JE X c fc)
  (hm:lastMarks [op,EK] [b,c]=false:=by with_unfolding_all rfl):JE X (.Compare a [op,EK] [b,c] pos) (dR f g fa fb fc):=PE.to (wl M G ha hb hc hm) λ_ _ _ h=>pk h
def pq (M:ci X (compareOp op) (rD X.K f))(G:ci X (compareOp EK) (rD X.K g))(ha:JE X a fa)(hb:JE X b fb)(hc:JE X c fc)
  (hm:lastMarks [op,EK] [b,c]=false:=by with_unfolding_all rfl):JT X (.Compare a [op,EK] [b,c] pos) (br (dR f g fa fb fc)):=PT.to (wm M G ha hb hc hm) λ_ _ _ h=>pk (nX h)
def zt {K:Frag}{f g:FT}{σ:St}{H:Hp}{Q:Bool->Hp->Prop}(h:nU K (jV f g) σ H Q):Dn (nU K f) (nU K g) σ H Q:=by
 obtain⟨B,ρ,c,s,r,e,q⟩:=h;unfold jV at e;cases G:f ρ with
 |none=>rw[G]at e;cases e
 |some k=>
  rw[G]at e;refine⟨B,ρ,k,s,r,G,λM h1=>?_⟩;cases k with
  |true=>rw[if_pos rfl];exact⟨B,ρ,c,s.trans h1,r,e,λH2 h2=>q H2 (h1.trans h2)⟩
  |false=>rw[if_neg (by decide)];cases e;exact q M h1
def BM {K:Frag}{f g:FT}{σ:St}{H:Hp}{Q:Bool->Hp->Prop}(h:nU K (cj f g) σ H Q):Hq (nU K f) (nU K g) σ H Q:=by
 obtain⟨B,ρ,c,s,r,e,q⟩:=h;unfold cj at e;cases G:f ρ with
 |none=>rw[G]at e;cases e
 |some k=>
  rw[G]at e;refine⟨B,ρ,k,s,r,G,λM h1=>?_⟩;cases k with
  |false=>rw[if_neg (by decide)];exact⟨B,ρ,c,s.trans h1,r,e,λH2 h2=>q H2 (h1.trans h2)⟩
  |true=>rw[if_pos rfl];cases e;exact q M h1
def zu {K:Frag}{f:FT}{σ:St}{H:Hp}{Q:Bool->Hp->Prop}(h:nU K (bV f) σ H Q):Dp (nU K f) σ H Q:=by
 obtain⟨B,ρ,c,s,r,e,q⟩:=h;obtain⟨k,G,e⟩:=oY e;subst e;exact⟨B,ρ,k,s,r,G,λM h1=>q M h1⟩
variable {ao:QD}
def sD (ha:JT X a f):JW X (.BoolOp .And [a] pos) f:=yK ha
def di (ha:JT X a f):JW X (.BoolOp .Or [a] pos) f:=Bj ha
def wI (ha:JT X a f)(hb:JW X (.BoolOp .And (b::ao) pos) g):JW X (.BoolOp .And (a::b::ao) pos) (jV f g):=PW.to (Bk ha hb) λ_ _ _ h=>zt h
def cS (ha:JT X a f)(hb:JW X (.BoolOp .Or (b::ao) pos) g):JW X (.BoolOp .Or (a::b::ao) pos) (cj f g):=PW.to (Dq ha hb) λ_ _ _ h=>BM h
def iq (h:JW X e f):JT X e f:=h.pt
def bW (ha:JT X a f):JT X (.UnaryOp .Not a pos) (bV f):=PT.to (Bl ha) λ_ _ _ h=>zu h
@[simp] noncomputable def gG (f g:FE):FE:=λρ=>match f ρ with|some (.bl true,_)=>g ρ|some (.bl false,_)=>some (.bl false,false)|_=>none
@[simp] noncomputable def BN (f g:FE):FE:=λρ=>match f ρ with|some (.bl true,_)=>some (.bl true,false)|some (.bl false,_)=>g ρ|_=>none
@[simp] noncomputable def u4 (f:FE):FE:=λρ=>match f ρ with|some (.bl c,_)=>some (.bl (!c),false)|_=>none
def cT (ha:JE X a f)(hb:JE X (.BoolOp .And (b::ao) pos) g):JE X (.BoolOp .And (a::b::ao) pos) (gG f g):=PE.to (Bn ha hb) λσ H Q h=>by
 obtain⟨B,ρ,d,k,s,r,e,q⟩:=h;unfold gG at e;split at e
 ·rename_i b' M;refine⟨B,ρ,_,_,s,r,M,λv O N1 G i1 _=>?_⟩;cases i1
  refine⟨true,rfl,?_⟩;rw[if_pos rfl];exact⟨N1,ρ,d,k,G.nh,r.mono G.bn,e,q.into G⟩
 ·rename_i b' M;cases e
  refine⟨B,ρ,_,_,s,r,M,λv O N1 G i1 _=>?_⟩;cases i1
  refine⟨false,rfl,?_⟩;rw[if_neg (by decide)];exact(q.into G).one G.nh (.bl false)
 ·cases e
def wJ (ha:JE X a f)(hb:JE X (.BoolOp .Or (b::ao) pos) g):JE X (.BoolOp .Or (a::b::ao) pos) (BN f g):=PE.to (Dt ha hb) λσ H Q h=>by
 obtain⟨B,ρ,d,k,s,r,e,q⟩:=h;unfold BN at e;split at e
 ·rename_i b' M;cases e
  refine⟨B,ρ,_,_,s,r,M,λv O N1 G i1 _=>?_⟩;cases i1
  refine⟨true,rfl,?_⟩;rw[if_pos rfl];exact(q.into G).one G.nh (.bl true)
 ·rename_i b' M;refine⟨B,ρ,_,_,s,r,M,λv O N1 G i1 _=>?_⟩;cases i1
  refine⟨false,rfl,?_⟩;rw[if_neg (by decide)];exact⟨N1,ρ,d,k,G.nh,r.mono G.bn,e,q.into G⟩
 ·cases e
def cU (h:JE X a f):JE X (.BoolOp op [a] pos) f:=Bm h
def wK (ha:JE X a f):JE X (.UnaryOp .Not a pos) (u4 f):=PE.to (Bo ha) λσ H Q h=>by
 obtain⟨B,ρ,d,k,s,r,e,q⟩:=h;unfold u4 at e;split at e
 ·rename_i c b' M;cases e
  refine⟨B,ρ,_,_,s,r,M,λv O N1 G i1 _=>?_⟩;cases i1
  exact⟨c,rfl,(q.into G).one G.nh (.bl _)⟩
 ·cases e
variable {es:QD}
def aj:JA X [] ak:=PA.to dP λ_ _ _ h=>zg h
def ac (ha:JE X e f)(G:JA X es g)(hs:starEach (e::es) X.env=(false,eval e X.env)::starEach es X.env:=by rfl):JA X (e::es) (ae f g):=PA.to (cy ha G hs) λ_ _ _ h=>wA h
@[simp] noncomputable def bw:LD->OB:=λds=>if ds.length<=sizeLine then some (.tup ds,false)else none
@[simp] noncomputable def c8:LD->OB:=λds=>if ds.length<=sizeLine then some (.lst ds,true)else none
def bg {M}(h:JA X es f):JE X (.Tuple es M pos) (fA bw f):=PE.to (wt h) λσ H Q q=>by
 obtain⟨B,ρ,ds,s,r,e,k⟩:=zf q;refine⟨B,ρ,ds,s,r,e,λvs T N1 M i1=>?_⟩;obtain⟨U,Lb,d,b,s2,i2,G,k2⟩:=k vs T N1 M i1;unfold bw at G;split at G
 ·rename_i hz;cases G
  refine⟨by rw[i2.length];exact hz,λp O=>k2 _ _ (upd U p (.tup vs)) (.laid s2 O) (.tup (fz.of a8) (i2.mono (Ext.laid s2 O).bn)) (by simp)⟩
 ·cases G
def dS (h:JA X es f):JE X (.List es pos) (fA c8 f):=PE.to (B8 h) λσ H Q q=>by
 obtain⟨B,ρ,ds,s,r,e,k⟩:=zf q;refine⟨B,ρ,ds,s,r,e,λvs T N1 U i1=>?_⟩;obtain⟨B2,O,d,b,s2,i2,G,k2⟩:=k vs T N1 U i1;unfold c8 at G;split at G
 ·rename_i hz;cases G
  refine⟨by rw[i2.length];exact hz,λp M=>k2 _ _ (upd B2 p (.lst vs)) (.laid s2 M) (.lst (dZ.of a8) (i2.mono (Ext.laid s2 M).bn)) λ_=>⟨p,vs,O,rfl,rfl,M,a8,i2.mono (Ext.laid s2 M).bn⟩⟩
 ·cases G
end
section
variable {X:Cx}
def fK (h:ci X f r)(k:∀x y H Q,r' x y H Q->r x y H Q):ci X f r':=λaa s σ H x y v u Q I G M q=>h aa s σ H x y v u Q I G M (k x y H Q q)
noncomputable def v0 (f g:D->D->OB):D->D->OB:=λx y=>match f x y with|some r=>some r|none=>g x y
def j9 (h:ci X s (rD X.K f))(h':ci X s (rD X.K g)):ci X s (rD X.K (v0 f g)):=by
 intro aa st σ H x y v u Q I G M q;obtain⟨B,dx,O,d,b,T,U,iy,e,q⟩:=q;unfold v0 at e;split at e
 ·rename_i r ef;cases e
  exact h aa st σ H x y v u Q I G M ⟨B,dx,O,_,_,T,U,iy,ef,q⟩
 ·exact h' aa st σ H x y v u Q I G M ⟨B,dx,O,_,_,T,U,iy,e,q⟩
@[simp] noncomputable def rj (C:Int->Int->Bool)(g:Int->Int->D):D->D->OB
 |.int i,.int j=>if C i j=true then some (g i j,false)else none
 |_,_=>none
def nY (h:ci X s (rI C g))(G:∀i j,C' i j=true->C i j)(M:∀i j B,Is X.K B (g i j) (g' i j)):ci X s (rD X.K (rj C' g')):=by
 refine fK h λx y H Q q=>?_;obtain⟨B,dx,dy,d,b,O,T,U,e,q⟩:=q;cases T<;>try (cases e;done)
 cases U<;>try (cases e;done)
 rename_i i j;simp only[rj]at e;split at e
 ·rename_i hc;cases e
  exact⟨i,j,rfl,rfl,G i j hc,q.one O (M i j B)⟩
 ·cases e
def fU (h:ci X s (yM g))(G:∀i j B,Is X.K B (g i j) (g' i j)):ci X s (rD X.K (rj (λ_ _=>true) g')):=by
 refine fK h λx y H Q q=>?_;obtain⟨B,dx,U,d,b,M,O,T,e,q⟩:=q;cases O<;>try (cases e;done)
 cases T<;>try (cases e;done)
 rename_i i j;simp only[rj,if_true]at e;cases e
 exact⟨i,j,rfl,rfl,q.one M (G i j B)⟩
abbrev BO:D->D->OB:=rj (λ_ _=>true) λi j=>.int (i+j)
abbrev kr:D->D->OB:=rj (λ_ _=>true) λi j=>.int (i - j)
abbrev DQ:D->D->OB:=rj (λi j=>decide ((-18446744073709551616<i/\i<18446744073709551616)∨(-18446744073709551616<j/\j<18446744073709551616))) λi j=>.int (i*j)
abbrev iP:D->D->OB:=rj (λ_ j=>decide (0<j/\j<1073741824)) λi j=>.int (i / j)
abbrev bF:D->D->OB:=rj (λ_ j=>decide (0<j)) λi j=>.int (i % j)
abbrev HB:D->D->OB:=rj (λ_ _=>true) λi j=>.bl (decide (i<j))
abbrev Gg:D->D->OB:=rj (λ_ _=>true) λi j=>.bl (decide (i<=j))
abbrev Db:D->D->OB:=rj (λ_ _=>true) λi j=>.bl (decide (j<i))
abbrev Fh:D->D->OB:=rj (λ_ _=>true) λi j=>.bl (decide (j<=i))
def DR:ci X (binaryOp .Add) (rD X.K BO):=fU Bz λ_ _ _=>.int _
def pr:ci X (binaryOp .Sub) (rD X.K kr):=fU B1 λ_ _ _=>.int _
def DS:ci X (binaryOp .Mult) (rD X.K DQ):=nY B3 (λi j h=>by have h:=of_decide_eq_true h;unfold yO;omega) λ_ _ _=>.int _
def jA:ci X (binaryOp .FloorDiv) (rD X.K iP):=nY yP (λi j h=>by have h:=of_decide_eq_true h;unfold D4;omega) λ_ _ _=>.int _
def cE:ci X (binaryOp .Mod) (rD X.K bF):=nY B4 (λ_ _ h=>of_decide_eq_true h) λ_ _ _=>.int _
def Gh:ci X (compareOp .Lt) (rD X.K HB):=fU D5 λ_ _ _=>.bl _
def Gi:ci X (compareOp .LtE) (rD X.K Gg):=fU D6 λ_ _ _=>.bl _
def BP:ci X (compareOp .Gt) (rD X.K Db):=fU D7 λ_ _ _=>.bl _
def DT:ci X (compareOp .GtE) (rD X.K Fh):=fU D8 λ_ _ _=>.bl _
@[simp] noncomputable def Dc (C:Str->Str->Bool)(g:Str->Str->D):D->D->OB
 |.str i,.str j=>if C i j=true then some (g i j,false)else none
 |_,_=>none
abbrev zv:D->D->OB:=Dc (λi j=>decide (i.length+j.length<=sizeLine)) λi j=>.str (i++j)
abbrev Fi:D->D->OB:=Dc (λ_ _=>true) λi j=>.bl (!decide (j.cps.toList<i.cps.toList))
def BQ:ci X (binaryOp .Add) (rD X.K zv):=by
 refine fK qX λx y H Q q=>?_;obtain⟨B,dx,T,d,b,G,M,O,e,q⟩:=q;cases M<;>try (cases e;done)
 cases O<;>try (cases e;done)
 rename_i i j;simp only[zv,Dc]at e;split at e
 ·rename_i hc;cases e
  exact⟨i,j,rfl,rfl,of_decide_eq_true hc,q.one G (.str _)⟩
 ·cases e
def DU:ci X (compareOp .LtE) (rD X.K Fi):=by
 intro aa s σ H x y v u Q I G M q;obtain⟨B,dx,dy,d,b,O,T,U,e,q⟩:=q;cases T<;>try (cases e;done)
 cases U<;>try (cases e;done)
 rename_i i j;simp only[Fi,Dc,if_true]at e;cases e
 obtain⟨t,rfl⟩:=G;obtain⟨t',rfl⟩:=M;exact PySem.P.le_str ⟨.bl _,H,I,rfl,q.one O (.bl _)⟩
end
section
variable {X:Cx}{a b c e:Expr}{pos:Pos}{st:Stmt}{ao:List Stmt}
def fL:md X [] aV:=me.to nG λ_ _ _ h=>wC h
def am (h1:JS X st g)(h2:md X ao h):md X (st::ao) (aC g h):=me.to (gJ h1 h2) λ_ _ _ q=>zh q
def b8 (h1:JS X st g):md X [st] g:=sk h1
def gC {c:Expr}{a b:List Stmt}{G:FT}{g h:FS}(hc:JT X c G)(ha:md X a g)(hb:md X b h):JS X (.If c a b pos) (dh G g h):=PS.to (we hc ha hb) λ_ _ _ q=>BJ q
def wL (he:JE X e f):JS X (.Return (some e) pos) (aM f):=PS.to (wd he) λ_ _ _ q=>zi q
def nZ (i:Nat)(G:PE X (.Name x p) (mf i):=by exact pv):JS X (.Return (some (.Name x p)) pos) (iO i):=PS.to (wd G) λ_ _ _ q=>wD q
def aS (G:X.N.Nodup)(he:JE X e f)(hi:X.N[i]? = some x:=by rfl)(hx:yI X.env.scope x:=by first|exact Or.inl rfl|exact Or.inr rfl)(hs:swapsWith e (some (.Name x p)) pos.line X.env=pure false:=by rfl)
  (hf:X.fn x=true∨X.env.scope.names.lookup x=some .local:=by first|exact .inl rfl|exact .inr rfl):JS X (.Assign [.Name x p] e pos) (bf i f):=PS.to (qT G hi hx he hs hf) λ_ _ _ q=>sx q
def pw (n:Nat)(G:PassesOwn (model X.prog X.w) X.A X.env X.xe)(hc:JT X c fc)(hb:md X body g):JS X (.While c body [] pos) (bR fc g n):=PS.to (wh G hc hb) λ_ _ _ q=>ux q
def BR (G:PassesOwn (model X.prog X.w) X.A X.env X.xe)(hc:X.calm=true)(hi:JI X tg dA fi)(M:PG X tg t)(O:zk X.K kL t)(hb:md X body g)
  (hs:∀x,foldedSetIterable dA X.env x=pure x:=by intro _;rfl):JS X (.For tg dA body [] pos) (gk fi kL g):=PS.to (wk G hc hi M hb hs) λ_ _ _ q=>zm O q
def zw (G:PassesOwn (model X.prog X.w) X.A X.env X.xe)(hc:X.calm=true)(hi:PI X tg dA (DP X.K fi))(M:PG X tg t)(O:zk X.K kL t)(hb:md X body g)
  (hs:∀x,foldedSetIterable dA X.env x=pure x:=by intro _;rfl):JS X (.For tg dA body [] pos) (fR fi kL g):=PS.to (wk G hc hi M hb hs) λ_ _ _ q=>wF O q
def kZ (he:JE X e f)(U:PE X (.Name x p) (mf i):=by exact pv)
  (G:attributeBase (.Name x p) "append" X.env (eval (.Name x p) X.env)=eval (.Name x p) X.env:=by rfl)
  (O:((backTo fy (starEach [e] X.env)).all (λx=>!x.1) && (backToKw fy (keywordEach [] X.env)).all (λx=>x.1.isSome)
   && decide ([e].length+([]:List Keyword).length+(if([]:List Keyword).isEmpty then 0 else 1)<30))=true:=by rfl)
  (M:(kB.endLine == fy.line)=true:=by rfl) (hs:starEach [e] X.env=[(false,eval e X.env)]:=by rfl) (T:swapsWith (.Call (.Attribute (.Name x p) "append" kB) [e] [] fy) none pos.line X.env=pure false:=by rfl):
  JS X (.Expr (.Call (.Attribute (.Name x p) "append" kB) [e] [] fy) pos) (j8 i f):=by
 refine PS.to (nH (mB plainAttrs_list PySem.F.slot_list_append PySem.F.type_list_append j6 U (cy he dP hs) G O M hs rfl) T) λE σ H q=>?_;obtain⟨a,us,h1,h2,k⟩:=zj q;exact⟨_,h1,.inl ⟨rfl,us,dZ.of h2⟩,k⟩
end
@[simp] noncomputable def aN (g:FS)(n k:Nat):LD->OB:=λds=>if ds.length=n then
 match g (ds.map (λd=>some (d,false))++List.replicate k none) with
 |some (.rt d b)=>some (d,b)
 |some (.nx _)=>some (.non,false)
 |_=>none
 else none
def AA (K:Frag)(f:LD->OB):Sp:=λvs H Q _=>∃(B:Hp)(ds:LD)(d:D)(b:Bool),(aJ B H/\Tb K B)/\IsL K B vs ds/\f ds=some (d,b)/\Fin K B H d b Q
def px {K:Frag}{B H:Hp}{vs:LV}{ds:LD}{N:LS}(M:aJ B H)(tb:Tb K B)(i:IsL K B vs ds):cb K B H B H (L2.gB N vs) (ds.map (λd=>some (d,false))++List.replicate (N.length - vs.length) none):=by
 have G:∀(j:Nat)(d:D)(b:Bool),(ds.map (λd=>some (d,false))++List.replicate (N.length - vs.length) none:Env)[j]? = some (some (d,b))->b=false/\ds[j]? = some d:=λj d b e=>by
  by_cases hj:j<ds.length
  ·rw[getElem?_append_left (by simpa using hj),vB]at e;obtain⟨d',h1,h2⟩:=oY e;cases h2
   exact⟨rfl,h1⟩
  ·rw[List.getElem?_append_right (by simpa using Nat.not_lt.mp hj),getElem?_replicate]at e;split at e<;>cases e
 have O:∀a,¬own (L2.gB N vs) (ds.map (λd=>some (d,false))++List.replicate (N.length - vs.length) none) a:=λa ⟨j,d,h,_⟩=>by
  obtain⟨z,_⟩:=G j d true h;cases z
 refine⟨M,tb,.refl M,?_,λj d e=>?_,λj d e=>?_,λj k a d e h=>?_⟩
 ·unfold L2.gB;rw[vA,vA,vI,vI,length_replicate,length_replicate,i.length]
 ·obtain⟨_,T⟩:=G j d false e;obtain⟨v,h1,h2⟩:=i.get T;refine⟨v,?_,h2.mono λa o e=>by rw[bO (O a)];exact e⟩;unfold L2.gB;have hj:j<vs.length:=(vV h1).1;rw[getElem?_append_left (by simpa using hj),vB,h1]<;>rfl
 ·obtain⟨z,_⟩:=G j d true e;cases z
 ·obtain⟨z,_⟩:=G j d true h;cases z
section
variable {P:Program}{w:World}{K:Frag}{mg:SV}{base:Heap}
def DV {x qual:Str}{st:Stmt}{f:Addr}{fd:FuncData}{N ps:LS}{k:Nat}{g:FS}(F:CH K x qual st f fd)(S:FnScope N ps (aD st))
  (hb:∀(cC:Value)(A:Around)(outer:List PySem.Env)(s:Shared)(H:Hp)(E:XK),dY k (A.deeper (envOfC qual (aD st) s.heap.objs.size f cC))->md (kn rg P w K mg base N qual (aD st) f cC A outer s H E).nox (bK st) g):
  my P w K mg base rg (k+1) f fd ps (AA K (aN g ps.length (N.length - ps.length))):=by
 have len:∀vs H Q E,AA K (aN g ps.length (N.length - ps.length)) vs H Q E->vs.length=ps.length:=λvs H Q E h=>by
  obtain⟨B,ds,d,b,M,i,e,q⟩:=h;unfold aN at e;split at e
  ·rename_i hl;rw[i.length];exact hl
  ·cases e
 refine F.ok S len λcC A outer s H vs Q E U h=>⟨_,hb cC A outer s H E U,?_⟩;have G:=len vs H Q E h;obtain⟨B,ds,d,b,M,i,e,q⟩:=h;unfold aN at e;rw[if_pos (by rw[←i.length];exact G)]at e;have O:=px (N:=N) M.1 M.2 i;rw[G]at O;split at e
 ·rename_i d' b' T;cases e
  exact⟨B,H,_,_,⟨B,O⟩,T,λv H' N' x' i' f'=>q v H' N' x' i' f'⟩
 ·rename_i ρ' T;cases e
  exact⟨B,H,_,_,⟨B,O⟩,T,λσ' H' ⟨N',s'⟩=>q .non H' N' s'.ext .non (by simp)⟩
 ·cases e
structure Fn (P:Program)(w:World)(K:Frag)(mg:Str->Option Value)(base:Heap)(k:Nat)(x:Str)(f:List D->OB):Prop where
 ex:∃(ad:Addr)(fd:FuncData)(ps:List Str),my P w K mg base rg k ad fd ps (AA K f)/\mg x=some (.ref ad)/\PySem.W.keepIn K (.ref ad)=true/\m3 K fd ps []
end
def sE (F:Fn X.prog X.w X.K X.mg X.base k x f)(T:dY k X.A)(ha:JA X (e::es) fa)(U:Gl X x:=by rfl)
  (G:(x == ("__debug__" : Str))=false:=by decide) (he:starEach (e::es) X.env=(false,eval e X.env)::starEach es X.env:=by rfl) (M:(backTo pos (starEach es X.env)).any (·.1)=false:=by rfl):
  JE X (.Call (.Name x p) (e::es) [] pos) (fA f fa):=by
 obtain⟨ad,fd,ps,F1,hm,hk,hb⟩:=F.ex;refine PE.to (yR F1 T U hm hk hb .nil DG ha G he M) λσ H Q q=>?_;obtain⟨B,ρ,d,b,s,r,e,q⟩:=q;obtain⟨ds,ex,e⟩:=oX e;exact⟨B,ρ,ds,s,r,ex,λvs H1 N1 O i1=>by
  show AA X.K f (vs++[]) H1 Q _;rw[append_nil];exact⟨N1,ds,d,b,⟨O.nh,r.tb.mono O.bn⟩,i1,e,q.into O⟩⟩
mutual
@[simp] def cx:D->D->Bool
 |.non,.non=>true
 |.bl a,.bl b=>a == b
 |.bl a,.int b=>decide ((if a then 1 else 0)=b)
 |.int a,.bl b=>decide (a=(if b then 1 else 0))
 |.int a,.int b=>decide (a=b)
 |.str a,.str b=>decide (a=b)
 |.tup xs,.tup ys=>gH xs ys
 |.lst xs,.lst ys=>gH xs ys
 |_,_=>false
@[simp] def gH:LD->LD->Bool
 |[],[]=>true
 |x::xs,y::ys=>cx x y && gH xs ys
 |_,_=>false
end
@[simp] def pz (a:Str)(b:Str):cx (.str a) (.str b)=decide (a=b):=by simp only[cx]
@[simp] noncomputable def aA:Nat->D->Bool
 |_,.non=>true
 |_,.bl _=>true
 |_,.int _=>true
 |_,.str _=>true
 |_,.ty _=>false
 |_,.dk _ _=>false
 |_,.dt _ _=>false
 |0,.tup _=>false
 |0,.lst _=>false
 |n+1,.tup ds=>ds.all (aA n)
 |n+1,.lst ds=>ds.all (aA n)
theorem p0:∀ {xs ys:LD},gH xs ys=true->xs.length=ys.length
 |[],[],_=>rfl
 |x::xs,y::ys,h=>by
  simp only[gH,vD]at h;rw[vE,vE,p0 h.2]
 |[],_::_,h=>by simp[gH]at h
 |_::_,[],h=>by simp[gH]at h
def sF (h:xs.length≠ys.length):gH xs ys=false:=by
 cases e:gH xs ys with
 |false=>rfl
 |true=>exact absurd (p0 e) h
theorem ir (f:Nat->Bool):∀ {xs ys:LD},xs.length=ys.length->(∀(j:Nat) x y,xs[j]? = some x->ys[j]? = some y->f j=cx x y)->(List.range xs.length).all f=gH xs ys
 |[],[],_,_=>by simp[gH]
 |x::xs,y::ys,hl,h=>by
  have e:=ir (λj=>f (j+1)) (xs:=xs) (ys:=ys) (by simpa using hl) λj a b h1 h2=>h (j+1) a b (by simpa using h1) (by simpa using h2);rw[vE,List.range_succ_eq_map,all_cons,all_map,gH,←h 0 x y rfl rfl,←e];rfl
 |[],_::_,hl,_=>by simp at hl
 |_::_,[],hl,_=>by simp at hl
section
variable {X:Cx}{aa:AO}{σ:St}{H:Hp}{s:Shared}
def sG (I:Inv X aa σ H s)(h1:fz X.K H a vs)(h2:dZ X.K H a ws):False:=by
 obtain⟨its,_,⟨o,e,c,_⟩,_⟩:=I.tuple h1;obtain⟨its',_,⟨o',O,G,M,_⟩,_⟩:=I.list h2;rw[e]at G;cases G;rw[c]at M;injection M with z;exact absurd z (by decide)
def sI (I:Inv X aa σ H s)(e:s.heap.get? a=some o)(d:o.data=.seq its n):(∀bx ob,H a≠some (.dK bx ob))/\∀bx,H a≠some (.dT bx):=by
 refine⟨λbx ob h=>?_,λbx h=>?_⟩
 ·obtain⟨_,_,_,_,_,o',es,M,G,_,d',_⟩:=(show bH X.prog X.w H s.heap a (.dK bx ob)from I.hok a _ h);rw[e]at G;cases G;rw[d]at d';cases d'
 ·obtain⟨_,_,_,_,o',es,M,G,_,d',_⟩:=(show bH X.prog X.w H s.heap a (.dT bx)from I.hok a _ h);rw[e]at G;cases G;rw[d]at d';cases d'
def p7 (I:Inv X aa σ H s)(h1:fz X.K H a vs):(∀bx ob,H a≠some (.dK bx ob))/\∀bx,H a≠some (.dT bx):=by
 obtain⟨its,_,⟨o,e,c,n,d⟩,_⟩:=I.tuple h1;exact sI I e d
def p8 (I:Inv X aa σ H s)(h1:dZ X.K H a vs):(∀bx ob,H a≠some (.dK bx ob))/\∀bx,H a≠some (.dT bx):=by
 obtain⟨its,_,p,_⟩:=I.list h1;obtain⟨o,e,c,n,d⟩:=p.isList;exact sI I e d
def sJ (I:Inv X aa σ H s):∀(n:Nat){v:V}{d d':D},Is X.K H v d->Is X.K H v d'->aA n d=true->cx d d'=true:=by
 have G:∀ {p:D->Bool}(T:∀ {v:V}{d d':D},Is X.K H v d->Is X.K H v d'->p d=true->cx d d'=true) {vs:LV}{ds O:LD},IsL X.K H vs ds->IsL X.K H vs O->ds.all p=true->gH ds O=true:=by
  intro p T vs;induction vs with
  |nil=>intro ds O h h' _;cases h;cases h';simp[gH]
  |cons v vs U=>
   intro ds O h h' M;cases h with
   |cons h1 h2=>
    cases h' with
    |cons h3 h4=>
     rw[all_cons,vD]at M;rw[gH,T h1 h3 M.1,U h2 h4 M.2];rfl
 intro n;induction n with
 |zero=>
  intro v d d' h h' M;cases h<;>cases h'<;>first|(simp[aA]at M;done)|simp[cx]
 |succ n T=>
  intro v d d' h h' M;cases h with
  |tup h1 h2=>
   cases h' with
   |tup h3 h4=>
    rw[I.tuple_inj h3 h1]at h4;rw[cx];exact G T h2 h4 (by simpa [aA]using M)
   |lst h3 h4=>exact(sG I h1 h3).elim
   |dk h3 _ _=>exact((p7 I h1).1 _ _ h3).elim
   |dt h3 _ _=>exact((p7 I h1).2 _ h3).elim
  |lst h1 h2=>
   cases h' with
   |lst h3 h4=>
    rw[I.list_inj h3 h1]at h4;rw[cx];exact G T h2 h4 (by simpa [aA]using M)
   |tup h3 h4=>exact(sG I h3 h1).elim
   |dk h3 _ _=>exact((p8 I h1).1 _ _ h3).elim
   |dt h3 _ _=>exact((p8 I h1).2 _ h3).elim
  |ty=>simp[aA]at M
  |dk=>simp[aA]at M
  |dt=>simp[aA]at M
  |_=>cases h'<;>simp[cx]
def AB {α:Type}{p:α->Bool}{l:List α}{j:Nat}{x:α}(h:l.all p=true)(e:l[j]? = some x):p x=true:=uS h x (mem_of_getElem? e)
def p9 {A:Around}{p:D->Bool}(ih:∀ {O T:V}{d1 d2:D}{U u2:Value},p d1=true->p d2=true->Is X.K H O d1->Is X.K H T d2->aP O U->aP T u2->SeqAt.EqAt A s U u2 (cx d1 d2))
  {vs M:LV}{ds es:LD}{its G:LU}(i1:IsL X.K H vs ds) (i2:IsL X.K H M es) (r1:aO vs its) (r2:aO M G) (p1:ds.all p=true) (p2:es.all p=true):
  ∀j (h1:j<its.toArray.size) (h2:j<G.toArray.size),SeqAt.EqAt A s its.toArray[j] G.toArray[j] (cx (ds.getD j .non) (es.getD j .non)):=by
 intro j h1 h2;rw[vH]at h1 h2;have l1:=r1.length;have l2:=r2.length;have l3:=i1.length;have l4:=i2.length;have hv:j<vs.length:=by omega
 have hw:j<M.length:=by omega
 have hd:j<ds.length:=by omega
 have he:j<es.length:=by omega
 obtain⟨u,e1,q1⟩:=r1.get (i:=j) (x:=vs[j]) (by simp[hv]);obtain⟨u',e2,q2⟩:=r2.get (i:=j) (x:=M[j]) (by simp[hw]);obtain⟨v,e3,q3⟩:=i1.get (i:=j) (d:=ds[j]) (by simp[hd]);obtain⟨w,e4,q4⟩:=i2.get (i:=j) (d:=es[j]) (by simp[he]);have a1:its.toArray[j]=u:=by have z:=(vV e1).2;simpa using z
 have a2:G.toArray[j]=u':=by have z:=(vV e2).2;simpa using z
 have a3:vs[j]=v:=by simpa [hv]using e3
 have a4:M[j]=w:=by simpa [hw]using e4
 have a5:ds.getD j .non=ds[j]:=by simp[List.getD,hd]
 have a6:es.getD j .non=es[j]:=by simp[List.getD,he]
 rw[a1,a2,a5,a6];exact ih (AB p1 (j:=j) (by simp[hd])) (AB p2 (j:=j) (by simp[he])) (a3 ▸ q3) (a4 ▸ q4) q1 q2
def sK {xs ys:LD}(j:Nat)(x y:D)(h1:xs[j]? = some x)(h2:ys[j]? = some y):cx (xs.getD j .non) (ys.getD j .non)=cx x y:=by
 simp[List.getD,h1,h2]
abbrev Gj (A:Around)(s:Shared)(G M:Value)(b:Bool):Prop:=SeqAt.RcAt A s G M b/\SeqAt.EqAt A s G M b/\SeqAt.RcNeAt A s G M (!b)
def sL {G M:Addr}(O:SeqAt.RcAt A s (.ref G) (.ref M) b)(T:SeqAt.RcNeAt A s (.ref G) (.ref M) (!b))(h:G=M->b=true):Gj A s (.ref G) (.ref M) b:=by
 refine⟨O,?_,T⟩;by_cases ha:G=M
 ·subst ha;rw[h rfl];exact SeqAt.EqAt.same _
 ·exact SeqAt.EqAt.of_refs ha O
def pA (T:aA 0 d1=true)(M:aA 0 d2=true)(i1:Is X.K H v1 d1)(i2:Is X.K H v2 d2)(O:aP v1 u1)(G:aP v2 u2):Gj A s u1 u2 (cx d1 d2):=by
 cases i1 with
 |non=>
  cases O
  cases i2 with
  |non=>cases G;rw[cx];exact⟨.none_none,.same _,.none_none⟩
  |bl b=>cases G;simp only[cx];exact⟨.none_bool _,.none_bool _,.none_bool _⟩
  |int b=>obtain⟨t',rfl⟩:=G;simp only[cx];exact⟨.none_int _ _,.none_int _ _,.none_int _ _⟩
  |str b=>obtain⟨t',rfl⟩:=G;simp only[cx];exact⟨.none_str _ _,.none_str _ _,.none_str _ _⟩
  |_=>simp at M
 |bl a=>
  cases O
  cases i2 with
  |non=>cases G;simp only[cx];exact⟨.bool_none _,.bool_none _,.bool_none _⟩
  |bl b=>cases G;rw[cx];exact⟨.bool_bool _ _,.bool_bool _ _,.bool_bool _ _⟩
  |int b=>obtain⟨t',rfl⟩:=G;rw[cx,←Bool.beq_eq_decide_eq];exact⟨.bool_int _ _ _,.bool_int _ _ _,.bool_int _ _ _⟩
  |str b=>obtain⟨t',rfl⟩:=G;simp only[cx];exact⟨.bool_str _ _ _,.bool_str _ _ _,.bool_str _ _ _⟩
  |_=>simp at M
 |int a=>
  obtain⟨t,rfl⟩:=O;cases i2 with
  |non=>cases G;simp only[cx];exact⟨.int_none _ _,.int_none _ _,.int_none _ _⟩
  |bl b=>cases G;rw[cx,←Bool.beq_eq_decide_eq];exact⟨.int_bool _ _ _,.int_bool _ _ _,.int_bool _ _ _⟩
  |int b=>obtain⟨t',rfl⟩:=G;rw[cx,←Bool.beq_eq_decide_eq];exact⟨.int_int _ _ _ _,.int_int _ _ _ _,.int_int _ _ _ _⟩
  |str b=>obtain⟨t',rfl⟩:=G;simp only[cx];exact⟨.int_str _ _ _ _,.int_str _ _ _ _,.int_str _ _ _ _⟩
  |_=>simp at M
 |str a=>
  obtain⟨t,rfl⟩:=O;cases i2 with
  |non=>cases G;simp only[cx];exact⟨.str_none _ _,.str_none _ _,.str_none _ _⟩
  |bl b=>cases G;simp only[cx];exact⟨.str_bool _ _ _,.str_bool _ _ _,.str_bool _ _ _⟩
  |int b=>obtain⟨t',rfl⟩:=G;simp only[cx];exact⟨.str_int _ _ _ _,.str_int _ _ _ _,.str_int _ _ _ _⟩
  |str b=>obtain⟨t',rfl⟩:=G;rw[cx,←Bool.beq_eq_decide_eq];exact⟨.str_str _ _ _ _,.str_str _ _ _ _,.str_str _ _ _ _⟩
  |_=>simp at M
 |_=>simp at T
def AD (I:Inv X aa σ H s):∀(n:Nat){A:Around}{v1 v2:V}{d1 d2:D}{u1 u2:Value},A.units+n<cLine->aA n d1=true->aA n d2=true->Is X.K H v1 d1->Is X.K H v2 d2->aP v1 u1->aP v2 u2->Gj A s u1 u2 (cx d1 d2):=by
 intro n;induction n with
 |zero=>exact λ_ p1 p2 i1 i2 T r2=>pA p1 p2 i1 i2 T r2
 |succ n ih=>
  intro A v1 v2 d1 d2 u1 u2 hu p1 p2 i1 i2 T r2;have G:A.units<cLine:=by omega
  have Ig:∀ {v1 v2:V}{d1 d2:D}{u1 u2:Value},aA n d1=true->aA n d2=true->Is X.K H v1 d1->Is X.K H v2 d2->aP v1 u1->aP v2 u2->SeqAt.EqAt A.in1 s u1 u2 (cx d1 d2):=λp1 p2 i1 i2 T r2=>(ih (A:=A.in1) (by show A.units+1+n<cLine;omega) p1 p2 i1 i2 T r2).2.1;by_cases f2:aA 0 d2=true
  ·by_cases f1:aA 0 d1=true
   ·exact pA f1 f2 i1 i2 T r2
   ·cases i1 with
    |tup h1 k1=>
     cases T
     obtain⟨its,U,M,z1⟩:=I.tuple h1;cases i2 with
     |non=>cases r2;simp only[cx];exact⟨.tuple_none M G,.tuple_none M G,.tuple_none M G⟩
     |bl=>cases r2;simp only[cx];exact⟨.tuple_bool _ M G,.tuple_bool _ M G,.tuple_bool _ M G⟩
     |int=>obtain⟨t,rfl⟩:=r2;simp only[cx];exact⟨.tuple_int _ _ M G,.tuple_int _ _ M G,.tuple_int _ _ M G⟩
     |str=>obtain⟨t,rfl⟩:=r2;simp only[cx];exact⟨.tuple_str _ _ M G,.tuple_str _ _ M G,.tuple_str _ _ M G⟩
     |_=>simp at f2
    |lst h1 k1=>
     cases T
     obtain⟨its,U,M,z1⟩:=I.list h1;replace M:=M.isList;cases i2 with
     |non=>cases r2;simp only[cx];exact⟨.list_none M G,.list_none M G,.list_none M G⟩
     |bl=>cases r2;simp only[cx];exact⟨.list_bool _ M G,.list_bool _ M G,.list_bool _ M G⟩
     |int=>obtain⟨t,rfl⟩:=r2;simp only[cx];exact⟨.list_int _ _ M G,.list_int _ _ M G,.list_int _ _ M G⟩
     |str=>obtain⟨t,rfl⟩:=r2;simp only[cx];exact⟨.list_str _ _ M G,.list_str _ _ M G,.list_str _ _ M G⟩
     |_=>simp at f2
    |_=>simp at f1 p1
  ·cases i2 with
   |tup h2 k2=>
    cases r2
    obtain⟨y9,EL,O,z2⟩:=I.tuple h2;cases i1 with
    |tup h1 k1=>
     cases T
     obtain⟨its,U,M,z1⟩:=I.tuple h1;rename_i a2 ws es a1 vs ds;have he:=p9 (A:=A.in1) (p:=aA n) Ig k1 k2 U EL (by simpa using p1) (by simpa using p2);have GR:((List.range (min its.toArray.size y9.toArray.size)).all (λj=>cx (ds.getD j .non) (es.getD j .non)) && its.toArray.size == y9.toArray.size)=cx (.tup ds) (.tup es):=by
      rw[cx,vH,vH,←U.length,←EL.length,k1.length,k2.length];by_cases hl:ds.length=es.length
      ·rw[←hl,Nat.min_self,beq_self_eq_true,Bool.and_true];exact ir _ hl λj x y e1 e2=>sK j x y e1 e2
      ·rw[sF hl,beq_eq_false_iff_ne.mpr hl,Bool.and_false]
     have rc:=SeqAt.RcAt.tuples M O G he;have rn:=SeqAt.RcNeAt.tuples M O G he;rw[GR]at rc rn;exact sL rc rn λe=>by subst e;exact sJ I (n+1) (.tup h1 k1) (.tup h2 k2) p1
    |lst h1 k1=>cases T;obtain⟨its,U,M,z1⟩:=I.list h1;simp only[cx];exact⟨.list_tuple M.isList O G,.list_tuple M.isList O G,.list_tuple M.isList O G⟩
    |non=>cases T;simp only[cx];exact⟨.none_tuple O G,.none_tuple O G,.none_tuple O G⟩
    |bl=>cases T;simp only[cx];exact⟨.bool_tuple _ O G,.bool_tuple _ O G,.bool_tuple _ O G⟩
    |int=>obtain⟨t,rfl⟩:=T;simp only[cx];exact⟨.int_tuple _ _ O G,.int_tuple _ _ O G,.int_tuple _ _ O G⟩
    |str=>obtain⟨t,rfl⟩:=T;simp only[cx];exact⟨.str_tuple _ _ O G,.str_tuple _ _ O G,.str_tuple _ _ O G⟩
    |_=>simp at p1
   |lst h2 k2=>
    cases r2
    obtain⟨y9,EL,O,z2⟩:=I.list h2;replace O:=O.isList;cases i1 with
    |lst h1 k1=>
     cases T
     obtain⟨its,U,M,z1⟩:=I.list h1;replace M:=M.isList;rename_i a2 ws es a1 vs ds;have he:=p9 (A:=A.in1) (p:=aA n) Ig k1 k2 U EL (by simpa using p1) (by simpa using p2);have both:SeqAt.RcAt A s (.ref a1) (.ref a2) (cx (.lst ds) (.lst es))/\SeqAt.RcNeAt A s (.ref a1) (.ref a2) (!cx (.lst ds) (.lst es)):=by
      have hz:its.toArray.size=ds.length/\y9.toArray.size=es.length:=by rw[vH,vH,←U.length,←EL.length,k1.length,k2.length];exact⟨rfl,rfl⟩
      by_cases hl:ds.length=es.length
      ·have GR:(List.range its.toArray.size).all (λj=>cx (ds.getD j .non) (es.getD j .non))=cx (.lst ds) (.lst es):=by
        rw[cx,hz.1];exact ir _ hl λj x y e1 e2=>sK j x y e1 e2
       have hs:=(hz.1.trans hl).trans hz.2.symm;have rc:=SeqAt.RcAt.lists M O hs G he;have rn:=SeqAt.RcNeAt.lists M O hs G he;rw[GR]at rc rn;exact⟨rc,rn⟩
      ·have hs:(its.toArray.size != y9.toArray.size)=true:=by rw[hz.1,hz.2];exact bne_iff_ne.mpr hl
       rw[cx,sF hl];exact⟨.lists_lengths M O hs G,.lists_lengths M O hs G⟩
     exact sL both.1 both.2 λe=>by subst e;exact sJ I (n+1) (.lst h1 k1) (.lst h2 k2) p1
    |tup h1 k1=>cases T;obtain⟨its,U,M,z1⟩:=I.tuple h1;simp only[cx];exact⟨.tuple_list M O G,.tuple_list M O G,.tuple_list M O G⟩
    |non=>cases T;simp only[cx];exact⟨.none_list O G,.none_list O G,.none_list O G⟩
    |bl=>cases T;simp only[cx];exact⟨.bool_list _ O G,.bool_list _ O G,.bool_list _ O G⟩
    |int=>obtain⟨t,rfl⟩:=T;simp only[cx];exact⟨.int_list _ _ O G,.int_list _ _ O G,.int_list _ _ O G⟩
    |str=>obtain⟨t,rfl⟩:=T;simp only[cx];exact⟨.str_list _ _ O G,.str_list _ _ O G,.str_list _ _ O G⟩
    |_=>simp at p1
   |_=>simp at f2 p2
@[simp] def cL:D->D->OB:=λx y=>if aA 40 x=true/\aA 40 y=true then some (.bl (cx x y),false)else none
@[simp] def vL:D->D->OB:=λx y=>if aA 40 x=true/\aA 40 y=true then some (.bl (!cx x y),false)else none
def cF (hu:X.A.units+40<cLine):ci X (compareOp .Eq) (rD X.K cL):=by
 intro aa s σ H x y v u Q I O T q;obtain⟨B,dx,dy,d,b,G,U,iy,e,q⟩:=q;unfold cL at e;split at e
 ·rename_i M;cases e
  exact(AD I 40 hu M.1 M.2 (U.mono G) (iy.mono G) O T).1 _ _ _ _ ⟨.bl _,H,I,rfl,q.one G (.bl _)⟩
 ·cases e
def rl (hu:X.A.units+40<cLine):ci X (compareOp .NotEq) (rD X.K vL):=by
 intro aa s σ H x y v u Q I O T q;obtain⟨B,dx,dy,d,b,G,U,iy,e,q⟩:=q;unfold vL at e;split at e
 ·rename_i M;cases e
  exact(AD I 40 hu M.1 M.2 (U.mono G) (iy.mono G) O T).2.2 _ _ _ _ ⟨.bl _,H,I,rfl,q.one G (.bl _)⟩
 ·cases e
end
section
variable {X:Cx}{a b e:Expr}{pos:Pos}
def sM {K:Frag}{H:Hp}{vs:LV}{ds:LD}{i:Int}{d:D}(h:IsL K H vs ds)(e:kT ds i=some d):∃v,kT vs i=some v/\Is K H v d:=by
 unfold kT at e ⊢;rw[h.length];cases q:uo ds.length i with
 |none=>rw[q]at e;cases e
 |some j=>rw[q]at e;exact h.get e
@[simp] def bB:D->D->OB
 |.lst ds,.int i=>(kT ds i).map λd=>(d,false)
 |.tup ds,.int i=>(kT ds i).map λd=>(d,false)
 |.str z,.int i=>if z.length<=sizeLine then (kT z.cps.toList i).map λc=>(.str ⟨#[c]⟩,false)else none
 |_,_=>none
def Gk:wx X (rD X.K bB):=by
 intro G M aa s σ H x y v u Q I rx ry q hs;obtain⟨B,dx,dy,d,b,O,ix,iy,e,q⟩:=q;cases ix<;>try (cases e;done)
 all_goals (cases iy<;>try (cases e;done))
 ·simp only[bB]at e;split at e
  ·rename_i hz;obtain⟨c,T,U⟩:=oY e;cases U
   exact nL G M aa s σ H _ _ v u Q I rx ry ⟨_,_,c,rfl,rfl,hz,T,q.one O (.str _)⟩ hs
  ·cases e
 ·rename_i h hl i;simp only[bB]at e;obtain⟨c,T,U⟩:=oY e;cases U
  obtain⟨w,h1,h2⟩:=sM hl T;exact rd G M aa s σ H _ _ v u Q I rx ry ⟨_,_,_,w,rfl,rfl,aL O h,h1,q.one O h2⟩ hs
 ·rename_i h hl i;simp only[bB]at e;obtain⟨c,T,U⟩:=oY e;cases U
  obtain⟨w,h1,h2⟩:=sM hl T;exact za G M aa s σ H _ _ v u Q I rx ry ⟨_,_,_,w,rfl,rfl,O.seq h,h1,q.one O h2⟩ hs
def bj (ha:JE X a fa)(hb:JE X b fb)(hs:iL b:=by intro _ _;rfl):JE X (.Subscript a b pos) (f2 bB fa fb):=PE.to (sw Gk ha hb hs) λ_ _ _ h=>ze h
abbrev FO:=Env->Option OI
def IU (K:Frag)(f:FO):TO:=λσ H Q=>∃(B:Hp)(ρ:Env)(o:OI),aJ B H/\dz K B σ ρ/\f ρ=some o/\∀H',aJ H H'->Q o H'
abbrev JO (X:Cx)(e:Option Expr)(f:FO):Prop:=PO X e (IU X.K f)
@[simp] def dg:FO:=λ_=>some none
@[simp] noncomputable def bo (f:FE):FO:=λρ=>match f ρ with|some (.int i,_)=>some (some i)|_=>none
def eB:JO X none dg:=λaa s σ H Q I h=>yV aa s σ H Q I (by
 obtain⟨B,ρ,o,G,r,e,q⟩:=h;cases e
 exact q H (.refl H))
def bX (h:JE X e f):JO X (some e) (bo f):=λaa s σ H Q I q=>yW h aa s σ H Q I (by
 obtain⟨B,ρ,o,G,r,e,q⟩:=q;unfold bo at e;split at e
 ·rename_i i b' M;cases e
  refine⟨B,ρ,_,_,G,r,M,λv O N1 T i1 _=>?_⟩;cases i1
  exact⟨i,rfl,q O T.hh⟩
 ·cases e)
def dI (ds:LD)(lo hi:OI):LD:=(ds.drop (HT.cc ds.length 0 lo)).take (HT.cc ds.length ds.length hi - HT.cc ds.length 0 lo)
def oe {K:Frag}{H:Hp}{vs:LV}{ds:LD}{lo hi:OI}(h:IsL K H vs ds):IsL K H (mh vs lo hi) (dI ds lo hi):=by
 unfold mh dI;rw[h.length];exact(h.drop _).take _
def bp.to (h:bp X f r)(k:∀xs H Q,r' xs H Q->r xs H Q):bp X f r':=λaa s σ H xs us Q I G q=>h aa s σ H xs us Q I G (k xs H Q q)
variable {es:QD}{x:Str}{p:Pos}{id T:String}
def ay (hc:bp X (.builtin id) (uw X.K f))(hm:X.mg x=none)(O:bootBuiltins x=some (.builtin id))(ha:JA X (e::es) fa)(U:Gl X x:=by rfl)(hn:x ≠ "__name__":=by decide)(G:(x == ("__debug__" : Str))=false:=by decide)
  (he:starEach (e::es) X.env=(false,eval e X.env)::starEach es X.env:=by rfl) (M:(backTo pos (starEach es X.env)).any (·.1)=false:=by rfl):JE X (.Call (.Name x p) (e::es) [] pos) (fA f fa):=PE.to (kR hc U hm O ha hn G he M) λ_ _ _ h=>zf h
def cM (hc:bp X (.type T) (uw X.K f))(hm:X.mg x=none)(O:bootBuiltins x=some (.type T))(ha:JA X (e::es) fa)(U:Gl X x:=by rfl)(hn:x ≠ "__name__":=by decide)(G:(x == ("__debug__" : Str))=false:=by decide)
  (he:starEach (e::es) X.env=(false,eval e X.env)::starEach es X.env:=by rfl) (M:(backTo pos (starEach es X.env)).any (·.1)=false:=by rfl):JE X (.Call (.Name x p) (e::es) [] pos) (fA f fa):=PE.to (j5 hc U hm O ha hn G he M) λ_ _ _ h=>zf h
@[simp] noncomputable def bU:LD->OB
 |[.lst ds]=>some (.int ds.length,false)
 |[.tup ds]=>some (.int ds.length,false)
 |[.str z]=>if z.length<=sizeLine then some (.int z.length,false)else none
 |_=>none
def cN:bp X (.builtin "len") (uw X.K bU):=by
 refine bp.to (bp.or nO nP) λxs H Q q=>?_;obtain⟨B,ds,d,b,G,i,e,q⟩:=q;cases i with
 |nil=>simp[bU]at e
 |cons i1 i2=>
  cases i2 with
  |cons _ _=>cases i1<;>simp[bU]at e
  |nil=>
   cases i1<;>try (simp[bU]at e;done)
   ·simp only[bU]at e;split at e
    ·rename_i hz;cases e
     exact .inr ⟨_,rfl,hz,q.one G (.int _)⟩
    ·cases e
   ·rename_i h hl;simp only[bU]at e;cases e
    refine .inl ⟨_,_,rfl,.inr (aL G h),?_⟩;rw[hl.length];exact q.one G (.int _)
   ·rename_i h hl;simp only[bU]at e;cases e
    refine .inl ⟨_,_,rfl,.inl (G.seq h),?_⟩;rw[hl.length];exact q.one G (.int _)
def cV (hm:X.mg x=none)(G:bootBuiltins x=some (.type n))(M:Gl X x:=by rfl)(hn:x ≠ "__name__":=by decide)(hd:(x == ("__debug__" : Str))=false:=by decide):JE X (.Name x pos) (fC (.ty n)) :=
 PE.to (yJ M hm G (v:=.ty n) rfl hn hd) λ_ _ _ h=>u3 (λ_=>.ty n) h
end
def DW (G:dY k A):A.units+40<cLine:=by have:=G.un;omega
section
variable {X:Cx}{a b e:Expr}{pos:Pos}{x:Str}{p:Pos}
def bY (h:∃u v,X.mg x=some u/\aP v u/\∀B,Is X.K B v d)(G:Gl X x:=by rfl)(hd:(x == ("__debug__" : Str))=false:=by decide):JE X (.Name x pos) (fC d):=by
 obtain⟨u,v,hm,r,i⟩:=h;exact zr G hm r i hd
@[simp] noncomputable def sO:D->D->OB
 |.int i,.int j=>some (.int (i+j),false)
 |.str i,.str j=>if i.length+j.length<=sizeLine then some (.str (i++j),false)else none
 |_,_=>none
def zx:ci X (binaryOp .Add) (rD X.K sO):=by
 refine fK (r:=rD X.K (v0 BO zv)) (j9 DR BQ) λx y H Q q=>?_;obtain⟨B,dx,G,d,b,M,O,T,e,q⟩:=q;refine⟨B,dx,G,d,b,M,O,T,?_,q⟩;cases dx<;>try (cases e;done)
 all_goals (cases G<;>try (cases e;done))
 all_goals (simp[sO]at e;simp[v0,BO,zv,rj,Dc,e])
@[simp] def gI:D->D->OB:=DQ
def jB:ci X (binaryOp .Mult) (rD X.K gI):=DS
@[simp] def sP:D->D->OB:=HB
def iQ:ci X (compareOp .Lt) (rD X.K sP):=Gh
@[simp] noncomputable def og:D->D->OB
 |.int i,.int j=>some (.bl (decide (i<=j)),false)
 |.str i,.str j=>some (.bl (!decide (j.cps.toList<i.cps.toList)),false)
 |_,_=>none
def gM:ci X (compareOp .LtE) (rD X.K og):=by
 refine fK (r:=rD X.K (v0 Gg Fi)) (j9 Gi DU) λx y H Q q=>?_;obtain⟨B,dx,G,d,b,M,O,T,e,q⟩:=q;refine⟨B,dx,G,d,b,M,O,T,?_,q⟩;cases dx<;>try (cases e;done)
 all_goals (cases G<;>try (cases e;done))
 all_goals (simp[og]at e;simp[v0,Gg,Fi,rj,Dc,e])
@[simp] noncomputable def la:D->OB
 |.int i=>some (.int (-i),false)
 |_=>none
def wM:Dz X (unaryOp .USub) (Ge X.K la):=by
 intro aa s σ H x v Q I G q;obtain⟨B,dx,d,b,M,O,e,q⟩:=q;cases O<;>try (simp[la]at e;done)
 simp only[la]at e;cases e
 exact B5 aa s σ H _ v Q I G ⟨_,rfl,q.one M (.int _)⟩
@[simp] noncomputable def oh:D->D->Option Bool
 |.non,.non=>some true
 |_,.non=>some false
 |.bl a,.bl b=>some (a == b)
 |_,.bl _=>some false
 |_,_=>none
@[simp] def DX:D->D->OB:=λx y=>(oh x y).map λb=>(.bl b,false)
@[simp] def oi:D->D->OB:=λx y=>(oh x y).map λb=>(.bl (!b),false)
def sQ {K:Frag}{B:Hp}{x y:V}{v u:Value}{dx G:D}{k:Bool}(O:Is K B x dx)(T:Is K B y G)(M:aP x v)(U:aP y u)(e:oh dx G=some k):plainIs v u=true/\(v == u)=k:=by
 cases T<;>(first|(cases dx<;>simp[oh]at e;done)|skip)
 all_goals (cases O)
 all_goals (first|(obtain⟨t,rfl⟩:=M)|cases M)
 all_goals (cases U)
 all_goals (simp only[oh,Option.some.injEq]at e;subst e)
 all_goals (first|exact⟨rfl,rfl⟩|skip)
 all_goals (rename_i c d;cases c<;>cases d<;>exact⟨rfl,rfl⟩)
def zy:ci X (compareOp .Is) (rD X.K DX):=by
 intro aa s σ H x y v u Q I G M q;obtain⟨B,dx,dy,d,b,O,T,U,e,q⟩:=q;obtain⟨k,ek,e⟩:=oY e;cases e
 obtain⟨h1,h2⟩:=sQ T U G M ek;refine wpAny_is_plain h1 ⟨.bl k,H,I,by rw[h2];rfl,q.one O (.bl _)⟩
def z0:ci X (compareOp .IsNot) (rD X.K oi):=by
 intro aa s σ H x y v u Q I G M q;obtain⟨B,dx,dy,d,b,O,T,U,e,q⟩:=q;obtain⟨k,ek,e⟩:=oY e;cases e
 obtain⟨h1,h2⟩:=sQ T U G M ek;refine wpAny_isNot_plain h1 ⟨.bl (!k),H,I,by rw[h2];rfl,q.one O (.bl _)⟩
@[simp] noncomputable def cO:D->Bool
 |.non=>true|.bl _=>true|.int _=>true|.str _=>true
 |_=>false
def vM (x:D)(ds:LD):Bool:=ds.any λy=>cx y x
@[simp] noncomputable def fB:D->Option LD
 |.lst ds=>some ds
 |.tup ds=>some ds
 |_=>none
@[simp] def z4:D->D->OB:=λx y=>(fB y).bind λds=>if cO x=true/\ds.all cO=true then some (.bl (vM x ds),false)else none
@[simp] def gm:D->D->OB:=λx y=>(fB y).bind λds=>if cO x=true/\ds.all cO=true then some (.bl (!vM x ds),false)else none
def lb {K:Frag}{B:Hp}{v:V}{d:D}(i:Is K B v d)(h:cO d=true):ig v=true:=by
 cases i<;>first|rfl|(simp[cO]at h)
def Gm {K:Frag}{B:Hp}{v w:V}{d e:D}(i:Is K B v d)(j:Is K B w e)(h:cO d=true)(h':cO e=true):yE v w=cx d e:=by
 cases i<;>(first|(simp[cO]at h;done)|skip)
 all_goals (cases j<;>(first|(simp[cO]at h';done)|skip))
 all_goals (simp only[yE,cx,Bool.beq_eq_decide_eq])
theorem pB {K:Frag}{B:Hp}:∀ {vs:LV}{ds:LD},IsL K B vs ds->ds.all cO=true->vs.all ig=true
 |_,_,.nil,_=>rfl
 |_,_,.cons i t,h=>by
  rw[all_cons,vD]at h;rw[all_cons,lb i h.1,pB t h.2];rfl
theorem wN {K:Frag}{B:Hp}{v:V}{d:D}(j:Is K B v d)(hd:cO d=true):∀ {vs:LV}{ds:LD},IsL K B vs ds->ds.all cO=true->Fg v vs=vM d ds
 |_,_,.nil,_=>rfl
 |_,_,.cons i t,h=>by
  rw[all_cons,vD]at h;have e:=wN j hd t h.2;unfold Fg vM at *;rw[any_cons,any_cons,e,Gm i j h.1 hd]
def sR:ci X (compareOp .In) (rD X.K z4):=by
 refine fK uq λx y H Q q=>?_;obtain⟨B,dx,T,d,b,G,M,O,e,q⟩:=q;obtain⟨ds,es,e⟩:=oX e;split at e
 ·rename_i hf;cases e
  cases O<;>simp only[fB]at es<;>try (cases es;done)
  ·rename_i h hl;cases es
   exact⟨_,_,rfl,.inr (aL G h),lb M hf.1,pB hl hf.2,by rw[if_neg (by decide),wN M hf.1 hl hf.2];exact q.one G (.bl _)⟩
  ·rename_i h hl;cases es
   exact⟨_,_,rfl,.inl (G.seq h),lb M hf.1,pB hl hf.2,by rw[if_neg (by decide),wN M hf.1 hl hf.2];exact q.one G (.bl _)⟩
 ·cases e
def le:ci X (compareOp .NotIn) (rD X.K gm):=by
 refine fK nN λx y H Q q=>?_;obtain⟨B,dx,T,d,b,G,M,O,e,q⟩:=q;obtain⟨ds,es,e⟩:=oX e;split at e
 ·rename_i hf;cases e
  cases O<;>simp only[fB]at es<;>try (cases es;done)
  ·rename_i h hl;cases es
   exact⟨_,_,rfl,.inr (aL G h),lb M hf.1,pB hl hf.2,by rw[if_pos rfl,wN M hf.1 hl hf.2];exact q.one G (.bl _)⟩
  ·rename_i h hl;cases es
   exact⟨_,_,rfl,.inl (G.seq h),lb M hf.1,pB hl hf.2,by rw[if_pos rfl,wN M hf.1 hl hf.2];exact q.one G (.bl _)⟩
 ·cases e
def cG:bootBuiltins "len" = some (.builtin "len"):=PySem.boot_len
def aH:bootBuiltins "isinstance" = some (.builtin "isinstance"):=by decide +kernel
def DY:bootBuiltins "max" = some (.builtin "max"):=by decide +kernel
def DZ:bootBuiltins "min" = some (.builtin "min"):=by decide +kernel
def pC:bootBuiltins "all" = some (.builtin "all"):=by decide +kernel
def sS:bootBuiltins "int" = some (.type "int"):=by decide +kernel
def wO:bootBuiltins "bool" = some (.type "bool"):=by decide +kernel
def sT:bootBuiltins "str" = some (.type "str"):=by decide +kernel
def lf:bootBuiltins "list" = some (.type "list"):=by decide +kernel
def c6:bootBuiltins "tuple" = some (.type "tuple"):=by decide +kernel
@[simp] noncomputable def z5:LD->OB
 |[.int i,.int j]=>some (.int (if j > i then j else i),false)
 |_=>none
@[simp] noncomputable def z6:LD->OB
 |[.int i,.int j]=>some (.int (if j<i then j else i),false)
 |_=>none
def pD {K:Frag}{B:Hp}{xs:LV}{i j:Int}(h:IsL K B xs [.int i,.int j]):xs=[.int i,.int j]:=by
 cases h with
 |cons h1 h2=>cases h1;cases h2 with|cons h3 h4=>cases h3;cases h4;rfl
def Ea (hc:X.calm=true:=by rfl):bp X (.builtin "max") (uw X.K z5):=by
 refine bp.to (ui hc) λxs H Q q=>?_;obtain⟨B,ds,d,b,G,i,e,q⟩:=q;match ds,e with
 |[.int M,.int O],e=>simp only[z5]at e;cases e;exact⟨M,O,pD i,q.one G (.int _)⟩
def Eb (hc:X.calm=true:=by rfl):bp X (.builtin "min") (uw X.K z6):=by
 refine bp.to (uj hc) λxs H Q q=>?_;obtain⟨B,ds,d,b,G,i,e,q⟩:=q;match ds,e with
 |[.int M,.int O],e=>simp only[z6]at e;cases e;exact⟨M,O,pD i,q.one G (.int _)⟩
@[simp] noncomputable def eO:D->String
 |.non=>"NoneType" | .bl _=>"bool" | .int _=>"int" | .str _=>"str" | .ty _=>"type" | .tup _=>"tuple" | .lst _=>"list" | .dk _ _=>"dict" | .dt _ _=>"dict"
@[simp] def u5:D->Bool
 |.ty _=>true
 |_=>false
@[simp] noncomputable def sU (t n:String):OB :=
 if n = "int" then some (.bl (t == "int" || t == "bool"),false)else if n = "bool" then some (.bl (t == "bool"),false)else if n = "str" then some (.bl (t == "str"),false)
 else if n = "list" then some (.bl (t == "list"),false)else if n = "tuple" then some (.bl (t == "tuple"),false)else none
@[simp] def aG:LD->OB
 |[d,.ty n]=>if u5 d=true then none else sU (eO d) n
 |_=>none
def z7 {aa:AO}{σ:St}{H:Hp}{s:Shared}{A:Around}{E:QV}{Q:QV}{c:Value}{b:Bool}{v:V}{d:D}{u:Value}(I:Inv X aa σ H s)(i:Is X.K H v d)(hd:∀n,d≠.ty n)(G:aP v u)(e:PySem.W.kitOne X.K (.type (eO d)) c=some b)(h:∀M,Q (.bool b) { s with toks:=M }):
  wpAny (model X.prog X.w) A (call (.builtin "isinstance") [u,c]) Q E s:=by
 cases i with
 |non=>exact eG I G .non e h
 |bl y=>exact eG I G (.bl y) e h
 |int y=>exact eG I G (.int y) e h
 |str y=>exact eG I G (.str y) e h
 |ty n=>exact absurd rfl (hd n)
 |dk h1 _ _=>exact eG I G (.dK h1) e h
 |dt h1 _ _=>exact eG I G (.dT h1) e h
 |tup O _=>
  cases G
  obtain⟨its,_,⟨o,h1,h2,_⟩,_⟩:=I.tuple O;exact kia_one PySem.W.kitx_tuple I.kIn ⟨o,h1,h2⟩ e (λz=>nomatch z) h
 |lst hl _=>
  cases G
  obtain⟨its,_,⟨o,n,h1,h2,_⟩,_⟩:=I.list hl;exact kia_one PySem.W.kitx_list I.kIn ⟨o,h1,h2⟩ e (λz=>nomatch z) h
def wP (K:Frag)(d:D)(hd:∀n,d≠.ty n):
  PySem.W.kitOne K (.type (eO d)) (.type "int")=some (eO d == "int" || eO d == "bool")/\PySem.W.kitOne K (.type (eO d)) (.type "bool")=some (eO d == "bool")/\PySem.W.kitOne K (.type (eO d)) (.type "str")=some (eO d == "str") /\
   PySem.W.kitOne K (.type (eO d)) (.type "list")=some (eO d == "list")/\PySem.W.kitOne K (.type (eO d)) (.type "tuple")=some (eO d == "tuple"):=by
 cases d<;>(first|exact absurd rfl (hd _)|skip)
 all_goals (simp only[eO];refine⟨?_,?_,?_,?_,?_⟩<;>kernel_rfl)
def aK:bp X (.builtin "isinstance") (uw X.K aG):=by
 intro aa s σ H xs us Q I O q;obtain⟨B,ds,d,b,M,i,e,q⟩:=q;cases i with
 |nil=>cases e
 |cons i1 i=>cases i with
 |nil=>cases e
 |cons i2 i=>
  cases i2<;>try (cases e;done)
  cases i<;>try (cases e;done)
  rename_i dx n;obtain⟨T,u2,rfl,U,r2⟩:=sq O;cases r2
  simp only[aG]at e;split at e
  ·cases e
  ·rename_i ht;have hd:∀n,dx≠.ty n:=λn z=>by subst z;exact ht rfl
   obtain⟨k1,k2,k3,k4,k5⟩:=wP X.K dx hd;have G:∀ {k:Bool},PySem.W.kitOne X.K (.type (eO dx)) (.type n)=some k->Fin X.K B H (.bl k) false Q->wq X (call (.builtin "isinstance") [T,.type n]) (EP X aa σ Q) X.xe s:=λ{k} hk q=>
    z7 I (i1.mono M) hd U hk λtk=>⟨.bl k,H,I.tok tk,rfl,q.one M (.bl k)⟩
   unfold sU at e;split at e
   ·rename_i z;subst z;cases e;exact G k1 q
   split at e
   ·rename_i z;subst z;cases e;exact G k2 q
   split at e
   ·rename_i z;subst z;cases e;exact G k3 q
   split at e
   ·rename_i z;subst z;cases e;exact G k4 q
   split at e
   ·rename_i z;subst z;cases e;exact G k5 q
   ·cases e
@[simp] def wQ (f:FE):FA:=λρ=>(f ρ).bind λx=>fB x.1
def sV (h:JE X e f):JI X tg e (wQ f):=by
 intro aa s σ H R I q;obtain⟨B,ρ,ds,sB,r,e',q⟩:=q;obtain⟨x,ex,es⟩:=oX e';obtain⟨xd,xb⟩:=x;cases xd<;>simp only[fB]at es<;>try (cases es;done)
 ·cases es
  refine Bv h aa s σ H R I ⟨B,ρ,_,_,sB,r,ex,λv U N1 O i1 _=>?_⟩;cases i1 with
  |@tup a vs _ M hl=>
   refine⟨a,rfl,⟨vs,aL O.nh M⟩,q _ U N1 O λi H2 s2=>⟨λd ed=>?_,λG=>⟨vs,aL s2 M,by rw[hl.length];exact G⟩⟩⟩;obtain⟨v,T,iv⟩:=hl.get ed;refine⟨⟨vs,v,aL s2 M,T⟩,λy H3 hy=>?_⟩;obtain⟨rfl,hy⟩:=hy;have:=hy vs (aL s2 M);rw[T]at this;cases this;exact⟨N1,.refl s2,iv⟩
 ·cases es
  refine yL h aa s σ H R I ⟨B,ρ,_,_,sB,r,ex,λv U N1 O i1 _=>?_⟩;cases i1 with
  |@lst a vs _ M hl=>
   refine⟨a,rfl,⟨vs,O.nh.seq M⟩,q _ U N1 O λi H2 s2=>⟨λd ed=>?_,λG=>⟨vs,s2.seq M,by rw[hl.length];exact G⟩⟩⟩;obtain⟨v,T,iv⟩:=hl.get ed;refine⟨⟨vs,v,s2.seq M,T⟩,λy H3 hy=>?_⟩;obtain⟨rfl,hy⟩:=hy;have:=hy vs (s2.seq M);rw[T]at this;cases this;exact⟨N1,.refl s2,iv⟩
noncomputable def dU (lo:Int)(n:Nat):LD:=(List.range n).map λ(k:Nat)=>.int (lo+(k:Int))
def wR {K:Frag}{B:Hp}(lo:Int)(n:Nat):kq K (Ff lo n) B (dU lo n):=by
 intro i H s;unfold dU;refine⟨λd ed=>?_,λhl=>by rw[vI,length_range]at hl;exact hl⟩;rw[vB]at ed;obtain⟨k,M,ed⟩:=oY ed;have hk:=vV M;obtain⟨G,hk⟩:=hk;rw[length_range]at G;rw[getElem_range]at hk;subst hk;subst ed;refine⟨G,λx H' hy=>?_⟩;obtain⟨rfl,rfl⟩:=hy;exact⟨B,.refl s,.int _⟩
@[simp] def dj (f:FE):FA:=λρ=>match f ρ with
 |some (.int j,_)=>if -1000<=j/\j<=1000 then some (dU 0 j.toNat)else none
 |_=>none
def iR (hm:X.mg "range" = none)(h:JE X a f)(M:Gl X "range":=by rfl)(hs:starEach [a] X.env=[(false,eval a X.env)]:=by rfl):PI X tg (.Call (.Name "range" p) [a] [] pos) (DP X.K (dj f)):=by
 refine PI.to (uf M hm (ac h aj hs) hs) λσ H R q=>?_;obtain⟨B,ρ,ds,O,r,G,q⟩:=q;unfold dj at G;split at G
 ·rename_i j b' T;split at G
  ·rename_i hj;cases G
   refine⟨B,ρ,[.int j],O,r,by simp[ae,ak,T],λvs U N1 x1 i1=>?_⟩;cases i1 with
   |cons i1 i2=>
    cases i1;cases i2
    exact⟨j,rfl,by omega,by omega,q _ U N1 x1 λ_=>wR 0 j.toNat⟩
  ·cases G
 ·cases G
def pE (hm:X.mg "range" = none)(h:JE X a f)(G:Gl X "range":=by rfl)(hs:starEach [a] X.env=[(false,eval a X.env)]:=by rfl):JI X tg (.Call (.Name "range" p) [a] [] pos) (dj f) :=
 PI.to (iR hm h G hs) λσ H R ⟨B,ρ,ds,M,r,O,q⟩=>⟨B,ρ,ds,M,r,O,λJ H' N x h=>q J H' N x (h _)⟩
end
def dO (K:Frag)(x:Str)(st:Stmt):Prop:=∃(f:Addr)(fd:FuncData),CH K x x st f fd/\nsIn K mainGlobals x=some (some (.ref f))
def def_mk {K:Frag}{x:Str}{st:Stmt}{f:Addr}{oc:Value}{od an:Option Addr}{kK:Array (Option Value)}{kV doc pm cC ct:Value}(a:nsIn K mainGlobals x=some (some (.ref f)))
  (l:K.lookup f=some ⟨oc,od,.func (fnOf x x (dB st) (bK st) (aD st) .none kV doc pm an cC ct),kK⟩) (c:PySem.W.codeIn K cC x=true) (k:PySem.W.keepIn K (.ref f)=true):dO K x st:=⟨f,_,BE l c k,a⟩
section
variable {P:Program}{w:World}{K:Frag}{mg:SV}{base:Heap}
def dO.fn {x:Str}{st:Stmt}{N ps:LS}{k:Nat}{g:FS}{h:Heap}(F:dO K x st)(X:K.In h)(G:h.Ns mainGlobals mg)(S:FnScope N ps (aD st))
  (M:∀(kV doc pm:Value)(an:Option Addr)(cC ct:Value)(us:LU),us.length=ps.length->bindArgs (fnOf x x (dB st) (bK st) (aD st) .none kV doc pm an cC ct) ⟨us,[]⟩=pure (ps.zip us))
  (hb:∀(f:Addr)(cC:Value)(A:Around)(outer:List PySem.Env)(s:Shared)(H:Hp)(E:XK),dY k (A.deeper (envOfC x (aD st) s.heap.objs.size f cC))->md (kn rg P w K mg base N x (aD st) f cC A outer s H E).nox (bK st) g):
  Fn P w K mg base (k+1) x (aN g ps.length (N.length - ps.length)):=by
 obtain⟨f,fd,O,a⟩:=F;exact⟨f,fd,ps,DV O S (hb f),mg_of X G a,O.kp,O.binds M⟩
end
def Ec (H:Hp):Prop:=∀b,H b=none∨(∃o xs,H b=some (.frz o (.lst xs)))∨∃q,H b=some (.tbl q)
noncomputable def lg (M:List (Addr×Str))(G:Hp):Hp:=λb=>match M.lookup b with|some q=>some (.tbl q)|none=>G b
def dJ (e:tabs.lookup b=some q):lg tabs G b=some (.tbl q):=by unfold lg;rw[e]
def fW (e:tabs.lookup b=none):lg tabs G b=G b:=by unfold lg;rw[e]
def u6 {P:Program}{w:World}{K:Frag}{mg mb:SV}{k:Nat}{fa a:Addr}{fd:FuncData}{x:Str}{sp:Sp}{M:Shared}{vs:LU}{ns:LI}(O:List (Addr×Str))
  (ht:∀b q,O.lookup b=some q->M.heap.get? b=some (PySem.W.tabObj #[])/\isCodeTable M.heap b) (JG:PySem.W.noTabs K=true)
  (KX:K.In M.heap) (Ih:M.heap.Ns mainGlobals mg) (hb:M.heap.Ns builtinsNs mb) (JH:∀x:Str,x ≠ "__name__"->mb x=bootBuiltins x) (GS:M.heap.NoLimit)
  (JJ:∃bm ob,mg "__builtins__" = some (.ref bm)/\bm≠builtinsNs/\M.heap.get? bm=some ob/\ob.cls=.type "module"/\ob.dict=some builtinsNs/\ob.data=.plain) (hg:M.gens=#[])
  (ha:M.heap.get? a=some { cls:=.type "list",data:=.seq vs.toArray }) (hi:IntsAre vs ns) (hl:ns.length<=sizeLine) (hr:dY k callerA)
  (F:∀base:Heap,K.In base->base.Ns mainGlobals mg->my P w K mg base rg k fa fd [x] sp) (EM:∀(s:Shared)(u:Value),BindsTo s fd ⟨[u],[]⟩ [(x,u)])
  (Ft:∀H:Hp,(∀b q,O.lookup b=some q->H b=some (.tbl q))->dZ K H a (ns.map V.int)->sp [.ref a] H (λv _=>v=.bl true) λ_ _ _=>False):
  codeAny (model P w) callerA (.call (.ref fa) ⟨[.ref a],[]⟩) (λr s'=>r=.ok (.ret (.bool true))/\OldK M.heap s'.heap/\s'.os=M.os/\AllBare s'.gens) M:=by
 have rv:=L2.fO hi;have GU:=hi.length;have EN:∀H:Hp,Ec H->(∀b q,O.lookup b=some q->H b=some (.tbl q))->dZ K H a (ns.map V.int)->kD P w H M.heap->(∀b q,H b=some (.tbl q)->M.heap.get? b=some (PySem.W.tabObj #[])/\isCodeTable M.heap b) ->
   (∀b o u,H b=some (.frz o u)->b=a)->(∀b o u,H b=some (.frz o u)->K.lookup b=none) ->
   codeAny (model P w) callerA (.call (.ref fa) ⟨[.ref a],[]⟩) (λr s'=>r=.ok (.ret (.bool true))/\OldK M.heap s'.heap/\s'.os=M.os/\AllBare s'.gens) M:=by
  intro H hO hT hS hok hA hB hK;have JK:∀ {b:Addr}{o:Obj},M.heap.get? b=some o->(o.cls≠.none)->(o.cls≠.type "list")->H b=none:=λ{b o} e d d'=>by
   rcases hO b with q|⟨ob,xs,q⟩|⟨u,q⟩
   ·exact q
   ·have e':b=a:=hB b _ _ q;subst e';rw[ha]at e;cases e;exact absurd rfl d'
   ·rw[(hA b u q).1]at e;cases e;exact absurd rfl d
  have JL:∀ {b:Addr}{o:Obj}{es:Array DictEntry}{ep:Nat},M.heap.get? b=some o->o.data=.dict es ep->H b=none:=λ{b o es ep} e d=>by
   rcases hO b with q|⟨ob,xs,q⟩|⟨u,q⟩
   ·exact q
   ·have e':b=a:=hB b _ _ q;subst e';rw[ha]at e;cases e;cases d
   ·rw[(hA b u q).1]at e;cases e;cases d
  have F0:∀ {b:Addr}{m:SV},M.heap.Ns b m->(oZ M.heap H).Ns b m:=λ{b m} ⟨o,es,ep,e,d,r⟩=>⟨o,es,ep,kN e (JL e d),d,r⟩;have Ii:K.In (oZ M.heap H):=λb o e=>kN (KX b o e) (by
   rcases hO b with q|⟨ob,xs,q⟩|⟨u,q⟩
   ·exact q
   ·rw[hK b _ _ q]at e;cases e
   ·have z:=(hA b u q).1;rw[KX b o e]at z;cases z
    have:=uS JG _ (PySem.W.mem_of_lookupK e);simp at this)
  have hM:Mod K mg (oZ M.heap H):=⟨Ii,F0 Ih,⟨mb,F0 hb,JH⟩,let ⟨mc,h1,h2⟩:=GS;⟨mc,F0 h1,h2⟩,by
   obtain⟨bm,ob,b1,b2,b3,b4,b5⟩:=JJ;exact⟨bm,ob,b1,b2,kN b3 (JK b3 (by rw[b4];exact λz=>nomatch z) (by rw[b4];intro z;injection z with z;exact absurd z (by decide))),b4,b5⟩⟩
  have e0:Env0 P w K mg (oZ M.heap H) callerA [] M H:=⟨rfl,hM,λb o e=>yG e,Nat.le_of_eq (ud _ _),trivial,λb hb=>absurd (show b∈([]:List Addr)from hb) (by simp),hok,.of_eq hg⟩;refine codeAny_mono ((F _ Ii (F0 Ih)).run callerA [] M H ⟨[.ref a],[]⟩ [.ref a] [.ref a] _ _ hr e0 (EM M (.ref a)) (.cons rfl .nil) (Ft H hT hS)) λr s' h=>?_;cases r with
  |error e=>exact False.elim h
  |ok fl=>
   cases fl with
   |next=>exact False.elim h
   |brk=>exact False.elim h
   |cont=>exact False.elim h
   |ret u=>
    obtain⟨v,H',os,bare,un,EO,r',q⟩:=h;have q':v=.bl true:=q;subst q';obtain rfl:u=Value.bool true:=r';have kp:∀b o,H b=none->M.heap.get? b=some o->s'.heap.get? b=some o:=λb o n e=>un.keep b o e n (by intro z;exact absurd (show b∈([]:List Addr)from z) (by simp)) (by simp);refine⟨rfl,⟨λb o e=>?_,λb o e=>un.there b o e (by simp)⟩,os,bare⟩;rcases hO b with z|⟨ob,xs,z⟩|⟨u,z⟩
    ·exact .inl (kp b o z e)
    ·have z2:=un.frzs b ob _ z;obtain⟨e1,_⟩:=hok b _ z;obtain⟨e2,_⟩:=EO b _ z2;rw[e]at e1;cases e1;exact .inl e2
    ·obtain⟨e1,e2⟩:=hA b u z;rw[e]at e1;cases e1;obtain⟨ps,e3,_⟩:=EO b _ (un.tbls b u z);exact .inr (.inl ⟨e2,rfl,#[],ps,rfl,by simpa using e3⟩)
 have CJ:∀q,O.lookup a≠some q:=λq z=>by
  have:=(ht a q z).1;rw[ha]at this;cases this
 have ta:O.lookup a=none:=by
  cases z:O.lookup a with
  |none=>rfl
  |some q=>exact absurd z (CJ q)
 have U:∀(G:Hp) b q,O.lookup b=some q->bH P w (lg O G) M.heap b (.tbl q):=λG b q z=>⟨#[],(ht b q z).1,trivial,λpos cv c=>by cases c⟩;cases hk:K.lookup a with
 |some o=>
  have e:=KX a o hk;rw[ha]at e;cases e
  refine EN (lg O λ_=>none) (λb=>?_) (λb q z=>dJ z) (.inr ⟨_,vs.toArray,_,hk,rfl,rfl,rfl,by rw[vH,GU];exact hl,by simpa using rv⟩) (λb u z=>?_) (λb q z=>?_) (λb o u z=>?_) λb o u z=>?_
  all_goals cases T:O.lookup b with
   |none=>first|exact .inl (fW T)|(rw[fW T]at z;cases z)
   |some q'=>first|exact .inr (.inr ⟨q',dJ T⟩)|(rw[dJ T]at z;cases z;done)|(rw[dJ T]at z;cases z;first|exact U _ b _ T|exact ht b _ T)
 |none=>
  refine EN (lg O λb=>if b=a then some (.frz { cls:=.type "list",data:=.seq vs.toArray } (.lst (ns.map V.int)))else none) (λb=>?_) (λb q z=>dJ z) (.inl (.inr ⟨{ cls:=.type "list",data:=.seq vs.toArray },by rw[fW ta,if_pos rfl]⟩)) (λb u z=>?_) (λb q z=>?_) (λb o u z=>?_) λb o u z=>?_
  all_goals cases T:O.lookup b with
   |some q'=>first|exact .inr (.inr ⟨q',dJ T⟩)|(rw[dJ T]at z;cases z;done)|(rw[dJ T]at z;cases z;first|exact U _ b _ T|exact ht b _ T)
   |none=>
    first
    |rw[fW T]at z
    |rw[fW T]
    by_cases hb:b=a
    ·first
     |rw[if_pos hb]at z
     |rw[if_pos hb]
     first
     |exact .inr (.inl ⟨_,_,rfl⟩)
     | (cases z;subst hb;exact⟨ha,by rw[vI];exact hl,vs,_,rv,ha⟩)
     |exact hb
     | (rw[hb];exact hk)
     |cases z
    ·first
     | (rw[if_neg hb]at z;cases z)
     |exact .inl (if_neg hb)
noncomputable def oj (L:List (Str×Option (Addr×Addr))):List (Addr×Str):=L.filterMap λp=>p.2.map λq=>(q.2,BH p.1)
structure kM (K:Frag)(L:List (Str×Option (Addr×Addr))):Prop where
 names:L=ph.map λx=>(x,PySem.W.tabIn K x)
 apart:((oj L).map (·.1)).Nodup
 none:PySem.W.noTabs K=true
theorem ii {α G:Type}[BEq α][LawfulBEq α]:∀ {l:List (α×G)}{a:α}{b:G},(l.map (·.1)).Nodup->(a,b)∈l->l.lookup a=some b
 | (c,d)::l,a,b,nd,h=>by
  rw[lookup_cons];rcases vP h with e|h
  ·cases e;simp
  ·have ne:a≠c:=λz=>(nodup_cons.mp nd).1 (by rw[←z];exact mem_map.mpr ⟨(a,b),h,rfl⟩);rw[show(a == c)=false by simpa using ne];exact ii (nodup_cons.mp nd).2 h
theorem gN {α G:Type}[BEq α][LawfulBEq α]:∀ {l:List (α×G)}{a:α}{b:G},l.lookup a=some b->(a,b)∈l
 | (c,d)::l,a,b,h=>by
  rw[lookup_cons]at h;cases e:a == c with
  |true=>rw[e]at h;cases h;rw[eq_of_beq e];exact mX
  |false=>rw[e]at h;exact mZ _ (gN h)
def kM.tb {K:Frag}{L:List (Str×Option (Addr×Addr))}(F:kM K L){H:Hp}(h:∀b q,(oj L).lookup b=some q->H b=some (.tbl q)):Tb K H:=λx hx c P e=>by
 refine h P (BH x) (ii F.apart ?_);rw[F.names];exact mem_filterMap.mpr ⟨(x,PySem.W.tabIn K x),mem_map.mpr ⟨x,hx,rfl⟩,by rw[e];rfl⟩
def tab_no {K:Frag}{x:Str}(e:nsIn K mainGlobals x=some none):PySem.W.tabIn K x=none:=by unfold PySem.W.tabIn;rw[e]
def tabs_fit {K:Frag}{G M O T:Option (Addr×Addr)}(h0:PySem.W.tabIn K "in_order" = G)(h1:PySem.W.tabIn K "has_seal" = M)(h2:PySem.W.tabIn K "is_first_death" = O)(h3:PySem.W.tabIn K "bases_by" = T)
  (U:((oj [("in_order",G),("has_seal",M),("is_first_death",O),("bases_by",T)]).map (·.1)).Nodup) (nt:PySem.W.noTabs K=true):kM K [("in_order",G),("has_seal",M),("is_first_death",O),("bases_by",T)] :=
 ⟨by subst h0;subst h1;subst h2;subst h3;rfl,U,nt⟩
def walkD {l:PySem.W.OpenLaw}{q:Program}{O:LS}{XP:SV->Heap->Prop}{YP:World->Heap->Prop}{d:DefRec}{K:Params->Frag}{k:Nat}{x:Str}{f:LD->OB}{L:List (Str×Option (Addr×Addr))}(hn:l.most=some 63)(GL:d.params.defaults=[])(hr:dY k callerA)
  (hY:∀(w:World)(h:Heap),YP w h->(K w.params).In h) (hT:∀w:World,kM (K w.params) L) (hD:(L.all λp=>p.2.isNone || ((recsOf q).find? λe=>e.name == p.1).isSome)=true)
  (F:∀(w:World)(mg:SV)(fa:Addr)(h:Heap),(K w.params).In h->h.Ns mainGlobals mg->mg d.name=some (.ref fa) ->
   ∃fd:FuncData,(∀(s:Shared)(u:Value),BindsTo s fd ⟨[u],[]⟩ [(x,u)])/\∀base:Heap,(K w.params).In base->base.Ns mainGlobals mg->my l.prog w (K w.params) mg base rg k fa fd [x] (AA (K w.params) f))
  (ht:∀ns:LI,ns.length<=63->∃b,f [.lst (ns.map .int)]=some (.bl true,b)):PySem.W.WalkO q O XP YP l.row.toRowW d [] (λf vs=>PySem.call f vs):=by
 refine Att.pf hn GL λw s₀ s₁ mg mb fa o pm cd doc a vs ns G Y ho hd CF hmg CG U M hg=>?_;have KX:=hY w _ Y;obtain⟨fd,hb,hF⟩:=F w mg fa _ KX G.T.g hmg;refine u6 (oj L) (λb u e=>?_) (hT w).none KX G.T.g G.T.b G.T.builtins G.T.nolimit G.T.bmain hg CG U (vR M (by decide)) hr hF hb λH hH hS=>?_
 ·obtain⟨p,hp,e2⟩:=mem_filterMap.mp (gN e);obtain⟨⟨c,P⟩,e3,e4⟩:=oY e2;cases e4
  have AY:=uS hD p hp;rw[e3]at AY;rw[isNone_some,Bool.false_or]at AY;obtain⟨r,JM⟩:=isSome_iff_exists.mp AY;have JN:PySem.W.tabIn (K w.params) p.1=some (c,P):=by
   rw[(hT w).names]at hp;obtain⟨y,_,rfl⟩:=mem_map.mp hp;exact e3
  obtain⟨h1,h2⟩:=PySem.W.tab_of G.T KX JM JN;exact⟨h2,(h1.tab h2).isCodeTable⟩
 ·obtain⟨b,e⟩:=ht ns M;exact⟨H,_,_,b,⟨.refl H,(hT w).tb hH⟩,.cons (.lst hS (.flat rfl)) .nil,e,λv H' N x' i' _=>by cases i';rfl⟩
def dO.law {P:Program}{w:World}{K:Frag}{mg:SV}{x y:Str}{st:Stmt}{N:LS}{k:Nat}{g:FS}{h:Heap}{T:Addr}(F:dO K x st)(X:K.In h)(G:h.Ns mainGlobals mg)(M:mg x=some (.ref T))(S:FnScope N [y] (aD st))
  (O:∀(kV doc pm:Value)(an:Option Addr)(cC ct:Value)(u:Value),bindArgs (fnOf x x (dB st) (bK st) (aD st) .none kV doc pm an cC ct) ⟨[u],[]⟩=pure [(y,u)])
  (hb:∀(base:Heap),K.In base->base.Ns mainGlobals mg->∀(f:Addr)(cC:Value)(A:Around)(outer:List PySem.Env)(s:Shared)(H:Hp)(E:XK),dY k (A.deeper (envOfC x (aD st) s.heap.objs.size f cC))->md (kn rg P w K mg base N x (aD st) f cC A outer s H E).nox (bK st) g):
  ∃fd:FuncData,(∀(s:Shared)(u:Value),BindsTo s fd ⟨[u],[]⟩ [(y,u)])/\∀base:Heap,K.In base->base.Ns mainGlobals mg->my P w K mg base rg (k+1) T fd [y] (AA K (aN g 1 (N.length - 1))):=by
 obtain⟨f,fd,U,a⟩:=F;have e:=M.symm.trans (mg_of X G a);cases e
 refine⟨fd,λs u=>?_,λbase kb nb=>DV U S (hb base kb nb _)⟩;obtain⟨oc,od,kV,doc,pm,an,cC,ct,kK,rfl,lk,CF⟩:=U.ex;exact .of_eq (O kV doc pm an cC ct u)
section
variable {X:Cx}{a b e:Expr}{pos:Pos}{x:Str}{p:Pos}
@[simp] noncomputable def z8:D->D->OB
 |.lst xs,.lst ys=>if xs.length+ys.length<=sizeLine then some (.lst (xs++ys),true)else none
 |_,_=>none
def BS:ci X (binaryOp .Add) (rD X.K z8):=by
 intro aa s σ H x y v u Q I rx ry q;obtain⟨B,dx,dy,d,bb,T,ix,iy,O,q⟩:=q;cases ix<;>try (cases O;done)
 all_goals (cases iy<;>try (cases O;done))
 rename_i l vs ds h hl l' ws es h' M;simp only[z8]at O;split at O
 ·rename_i hz;cases O
  cases rx
  cases ry
  obtain⟨its,U,p1,z1⟩:=I.list (T.seq h);obtain⟨G,r2,p2,z2⟩:=I.list (T.seq h');obtain⟨⟨c1,d1,t1,s1⟩,o1,e1,n1,k1⟩:=p1.isList;obtain⟨⟨c2,d2,t2,s2⟩,o2,e2,n2,k2⟩:=p2.isList;dsimp only at e1 k1 e2 k2;subst e1;subst k1;subst e2;subst k2;have hsz:its.toArray.size+G.toArray.size<=sizeLine:=by
   rw[vH,vH,←U.length,←r2.length,hl.length,M.length];exact hz
  have ea:its.toArray++G.toArray=(its++G).toArray:=by simp
  refine concat_meets ⟨_,o1,rfl⟩ ⟨_,o2,rfl⟩ noFill_list_add seq_list_add PySem.F.slot_list_add PySem.F.entry_list_add (PySem.F.args_list_add_2 _ _) (list_addW l l' its.toArray G.toArray n1 n2 d1 d2 s1 s2 hsz) ⟨o1,o2,?_⟩;rw[ea];have xt:=Ext.laid (o:=.lst (vs++ws)) T I.fresh;have il:=(hl.append M).mono xt.bn;exact⟨.ref s.heap.objs.size,_,I.lnew (t':=s.toks) (U.append r2) (by rw[vA,hl.length,M.length];exact hz),rfl,q _ _ _ xt (.lst (dZ.of a8) il) λ_=>⟨_,_,_,rfl,rfl,I.fresh,a8,il⟩⟩
 ·cases O
@[simp] noncomputable def mm:D->D->OB
 |.tup xs,.tup ys=>if xs.length+ys.length<=sizeLine/\xs.isEmpty=false then some (.tup (xs++ys),false)else none
 |_,_=>none
def wS:ci X (binaryOp .Add) (rD X.K mm):=by
 refine fK yX λx y H Q q=>?_;obtain⟨B,dx,dy,d,bb,O,ix,iy,M,q⟩:=q;cases ix<;>try (cases M;done)
 all_goals (cases iy<;>try (cases M;done))
 rename_i l vs ds h hl l' T es h' G;simp only[mm]at M;split at M
 ·rename_i hz;cases M
  have l1:=hl.length;have l2:=G.length;refine⟨l,l',vs,T,rfl,rfl,aL O h,aL O h',λz=>?_,by omega,λz=>?_,λ_ pp hp=>?_⟩
  ·subst z;cases hl
   simp at hz
  ·subst z;cases G
   rw[append_nil]at q;exact q.one O (.tup h hl)
  ·have U:=Ext.laid (o:=.tup (vs++T)) O hp;exact q _ _ _ U (.tup (fz.of a8) ((hl.append G).mono U.bn)) (by simp)
 ·cases M
@[simp] noncomputable def wT:D->D->OB
 |.bl i,.int j=>some (.int ((if i=true then 1 else 0)+j),false)
 |.int i,.bl j=>some (.int (i+b2i j),false)
 |_,_=>none
def BU:ci X (binaryOp .Add) (rD X.K wT):=by
 intro aa s σ H x y v u Q I M O q;obtain⟨B,dx,dy,d,bb,T,U,iy,G,q⟩:=q;cases U<;>try (cases G;done)
 all_goals (cases iy<;>try (cases G;done))
 ·simp only[wT]at G;cases G
  cases M
  obtain⟨t,rfl⟩:=O;exact IntBool.add_bool_int ⟨.int _,H,I.tok _,⟨_,rfl⟩,q.one T (.int _)⟩
 ·simp only[wT]at G;cases G
  exact uh aa s σ H _ _ v u Q I M O ⟨_,_,rfl,rfl,q.one T (.int _)⟩
@[simp] noncomputable def bC:D->D->OB
 |.int i,.int j=>some (.int (i+j),false)
 |.str i,.str j=>if i.length+j.length<=sizeLine then some (.str (i++j),false)else none
 |.lst xs,.lst ys=>if xs.length+ys.length<=sizeLine then some (.lst (xs++ys),true)else none
 |.tup xs,.tup ys=>if xs.length+ys.length<=sizeLine/\xs.isEmpty=false then some (.tup (xs++ys),false)else none
 |.bl i,.int j=>some (.int ((if i=true then 1 else 0)+j),false)
 |.int i,.bl j=>some (.int (i+b2i j),false)
 |_,_=>none
def bI:ci X (binaryOp .Add) (rD X.K bC):=by
 refine fK (r:=rD X.K (v0 sO (v0 z8 (v0 mm wT)))) (j9 zx (j9 BS (j9 wS BU))) λx y H Q q=>?_;obtain⟨B,dx,M,d,O,T,U,iy,G,q⟩:=q;refine⟨B,dx,M,d,O,T,U,iy,?_,q⟩;cases dx<;>try (cases G;done)
 all_goals (cases M<;>try (cases G;done))
 all_goals (simp[bC]at G;simp[v0,sO,z8,mm,wT,G])
@[simp] def Gn:D->Option Bool
 |.bl b=>some b
 |_=>none
def rm:LD->Option (List Bool)
 |[]=>some []
 |d::ds=>(Gn d).bind λb=>(rm ds).map (b :: ·)
@[simp] def Ed:rm []=some []:=rfl
@[simp] def u7 (d:D)(ds:LD):rm (d::ds)=(Gn d).bind λb=>(rm ds).map (b :: ·):=rfl
theorem sW {K:Frag}{B:Hp}:∀ {vs:LV}{ds:LD}{bs:List Bool}{its:LU},L2.aO vs its->IsL K B vs ds->rm ds=some bs->its=bs.map Value.bool
 |_,_,_,_,.nil,.nil,e=>by cases e;rfl
 |_,_,_,_,.cons r M,.cons i O,e=>by
  rw[u7]at e;obtain⟨b,G,e⟩:=oX e;obtain⟨bs,T,e⟩:=oY e;subst e;cases i<;>simp only[Gn]at G<;>try (cases G;done)
  cases G
  cases r
  rw[sW M O T];rfl
@[simp] def om:LD->OB
 |[.lst ds]=>(rm ds).map λbs=>(.bl (bs.all id),false)
 |_=>none
def pF (hc:X.calm=true:=by rfl):bp X (.builtin "all") (uw X.K om):=by
 intro aa s σ H xs us Q I rs q;obtain⟨B,ds,d,bb,sB,i,G,q⟩:=q;match ds,i,G with
 |[.lst es],.cons i1 .nil,G=>
  obtain⟨bs,eb,G⟩:=oY G;cases G
  obtain⟨u1,rfl,r1⟩:=gA rs;cases i1 with
  |@lst l vs _ h hl=>
   cases r1
   obtain⟨its,rv,T,z1⟩:=I.list (sB.seq h);have ei:=sW rv hl eb;have U:l<s.heap.objs.size:=by obtain⟨_,M,_⟩:=T.isList;exact vX M
   refine call_all_walk (wpAny_pyIter_list T.isList ⟨_,_,_,_,_,_,λj=>(bs[j]?).getD true,rfl,Walks.list (A:=X.A.in1) (I.ok.hd hc) s.heap.objs.size l (vS U) its.toArray,⟨⟨_,vY _ rfl,rfl,rfl⟩,T.isList.push _⟩,λj v s' Q' E' hP hQ=>?_,λh' tk hk=>?_⟩)
   ·have O:its[j]? = some v:=by simpa using hP
    rw[ei,vB]at O;obtain⟨c,e1,e2⟩:=oY O;subst e2;dsimp only at hQ;rw[e1]at hQ;exact wpAny_truthy_bool hQ
   ·have ea:((List.range its.toArray.size).all λj=>(bs[j]?).getD true)=bs.all id:=by
     rw[vH,ei,vI];exact LSm.range_all bs
    rw[ea];refine⟨.bl _,H,I.kept λc o M=>?_,rfl,q.one sB (.bl _)⟩;exact hk c o (λhm=>by rw[uU hm]at M;exact Nat.lt_irrefl _ (vX M)) (vZ _ M)
end
noncomputable def Fj (z:Str):It:=⟨λi _=>i<z.cps.size,λi H v H'=>H'=H/\∃c,z.cps[i]? = some c/\v=.str ⟨#[c]⟩,λi _=>z.cps.size<=i⟩
def pG {P:Program}{w:World}{K:Frag}{tg:Expr}(z:Str)(t:Tok)(it:Addr):Turn P w K tg (Fj z) [it] it (λi h=>h.IsStrIter it "str_ascii_iterator" z t i) where
 mem:=mem_singleton.mpr rfl
 obj:=λi h st b hb=>by
  have T:=uU hb;subst T;obtain⟨o,M,_,d1⟩:=st;exact⟨o,M,λv zz=>by rw[d1]at zz;cases zz⟩
 keep:=λi h h' st k=>let ⟨o,M,r⟩:=st;⟨o,k it (mem_singleton.mpr rfl) o M,r⟩
 item:=by
  intro X U hw hK hc i aa s σ H E I hf st hg;subst U hw hK;have G:i<z.cps.size:=hg;obtain⟨f0,f1,f2,f3,f4,f5⟩:=hf it (mem_singleton.mpr rfl);refine wpAny_pyNext_ascii_item st (c:=z.cps[i]) (by simp[G]) λh' O sb=>?_;obtain⟨o,M,c1,d1⟩:=id O;exact⟨_,rfl,kQ (s:={ s with heap:=h',toks:=s.toks+1 }) M c1 d1 (by decide) ⟨.str ⟨#[z.cps[i]]⟩,H,I.turned (λb o hb e2=>(sb.2 b hb).trans e2) f0 f1 f3 f4 f5,⟨_,rfl⟩,⟨rfl,_,by simp[G],rfl⟩,O,λb hb=>(hf b hb).1⟩⟩
 done:=by
  intro X U hw hK hc i aa s σ H E I hf st hg;subst U hw hK;have G:z.cps.size<=i:=hg;obtain⟨f0,f1,f2,f3,f4,f5⟩:=hf it (mem_singleton.mpr rfl);exact wpAny_pyNext_ascii_end (I.ok.hd hc) st (by simp;omega) λh' T=>⟨rfl,I.turned (t':=s.toks) (λb o hb e2=>T b o hb e2) f0 f1 f3 f4 f5⟩
 self:=λ_ _ _ _ _ st h=>wpAny_pyIter_striter_ascii st h
def pH {P:Program}{w:World}{K:Frag}{tg:Expr}(z:Str)(t:Tok)(it:Addr):Turn P w K tg (Fj z) [it] it (λi h=>h.IsStrIter it "str_iterator" z t i) where
 mem:=mem_singleton.mpr rfl
 obj:=λi h st b hb=>by
  have T:=uU hb;subst T;obtain⟨o,M,_,d1⟩:=st;exact⟨o,M,λv zz=>by rw[d1]at zz;cases zz⟩
 keep:=λi h h' st k=>let ⟨o,M,r⟩:=st;⟨o,k it (mem_singleton.mpr rfl) o M,r⟩
 item:=by
  intro X U hw hK hc i aa s σ H E I hf st hg;subst U hw hK;have G:i<z.cps.size:=hg;obtain⟨f0,f1,f2,f3,f4,f5⟩:=hf it (mem_singleton.mpr rfl);refine wpAny_pyNext_wide_item st (c:=z.cps[i]) (by simp[G]) λh' O sb=>?_;obtain⟨o,M,c1,d1⟩:=id O;exact⟨_,rfl,kQ (s:={ s with heap:=h',toks:=s.toks+1 }) M c1 d1 (by decide) ⟨.str ⟨#[z.cps[i]]⟩,H,I.turned (λb o hb e2=>(sb.2 b hb).trans e2) f0 f1 f3 f4 f5,⟨_,rfl⟩,⟨rfl,_,by simp[G],rfl⟩,O,λb hb=>(hf b hb).1⟩⟩
 done:=by
  intro X U hw hK hc i aa s σ H E I hf st hg;subst U hw hK;have G:z.cps.size<=i:=hg;obtain⟨f0,f1,f2,f3,f4,f5⟩:=hf it (mem_singleton.mpr rfl);exact wpAny_pyNext_wide_end (I.ok.hd hc) st (by simp;omega) λh' T=>⟨rfl,I.turned (t':=s.toks) (λb o hb e2=>T b o hb e2) f0 f1 f3 f4 f5⟩
 self:=λ_ _ _ _ _ st h=>wpAny_pyIter_striter_wide st h
section
variable {X:Cx}{a b e:Expr}{pos:Pos}{x:Str}{p:Pos}{tg:Expr}
def wU {l:Expr}{tl:TE}(hl:PE X l tl):PI X tg l (λσ H R=>tl σ H λx G=>∃z,x=.str z/\R (Fj z) G):=by
 intro aa s σ H R I h;refine bN (hl aa s σ H _ I h) λv s1 ⟨x,G,M,O,T⟩=>?_;obtain⟨z,rfl,q⟩:=T;obtain⟨t,rfl⟩:=O;have fp:∀b∈[s1.heap.objs.size],iJ X aa G b:=λb hb=>by
  rw[uU hb];exact M.fpOk (vT _) (M.hok.fresh (vT _))
 cases ha:z.cps.all (· < 128) with
 |true=>exact wpAny_pyIter_ascii ha ⟨_,[s1.heap.objs.size],_,_,G,rfl,M.kept (t':=s1.toks) λb o e=>vZ _ e,pG z t _,⟨_,vY _ rfl,rfl,rfl⟩,fp,q⟩
 |false=>exact wpAny_pyIter_wide ha ⟨_,[s1.heap.objs.size],_,_,G,rfl,M.kept (t':=s1.toks) λb o e=>vZ _ e,pH z t _,⟨_,vY _ rfl,rfl,rfl⟩,fp,q⟩
def pI (z:Str):LD:=z.cps.toList.map λc=>.str ⟨#[c]⟩
def wV {K:Frag}{B:Hp}(z:Str):kq K (Fj z) B (pI z):=by
 intro i H s;refine⟨λd ed=>?_,λhl=>by unfold pI at hl;show z.cps.size<=i;simpa using hl⟩;unfold pI at ed;rw[vB]at ed;obtain⟨c,O,rfl⟩:=oY ed;have G:z.cps[i]? = some c:=by simpa using O
 refine⟨(Array.getElem?_eq_some_iff.mp G).1,λv H' hy=>?_⟩;obtain⟨rfl,T,M,rfl⟩:=hy;rw[G]at M;cases M;exact⟨B,.refl s,.str _⟩
@[simp] def BV:D->Option LD
 |.lst ds=>some ds
 |.tup ds=>some ds
 |.str z=>some (pI z)
 |_=>none
@[simp] def ft (f:FE):FA:=λρ=>(f ρ).bind λx=>BV x.1
def dW (h:JE X e f):JI X tg e (ft f):=by
 intro aa s σ H R I q;obtain⟨B,ρ,ds,G,r,M,q⟩:=q;obtain⟨O,ex,es⟩:=oX M;obtain⟨xd,xb⟩:=O;cases xd with
 |lst l=>exact sV h aa s σ H R I ⟨B,ρ,ds,G,r,by unfold wQ;rw[ex];exact es,q⟩
 |tup l=>exact sV h aa s σ H R I ⟨B,ρ,ds,G,r,by unfold wQ;rw[ex];exact es,q⟩
 |str z=>
  cases es
  refine wU h aa s σ H R I ⟨B,ρ,_,_,G,r,ex,λv T N1 U i1 _=>?_⟩;cases i1
  exact⟨z,rfl,q _ T N1 U (wV z)⟩
 |_=>cases es
def z9:vz X (λx lo hi H Q=>∃z,x=.str z/\z.length<=sizeLine/\Q (.str (Txt.slice z lo hi)) H):=by
 intro aa s σ H x v vl U lo hi sl Q I T hs pl O h;obtain⟨z,rfl,hz,q⟩:=h;obtain⟨t,rfl⟩:=T;have G:∀lo hi,Q (.str (Txt.slice z lo hi)) H->(Txt.slice z lo hi).length<=sizeLine/\∀t' k,EP X aa σ Q (.str (Txt.slice z lo hi) t') { s with toks:=k }:=λlo hi q=>
  ⟨vR (Txt.slice_le z _ _) hz,λt' k=>⟨.str _,H,I.tok k,⟨t',rfl⟩,q⟩⟩
 refine⟨"str",_,PySem.F.slot_str_getitem.lookup,typeIs_str _ _ _,?_⟩;cases pl with
 |none=>
  cases O with
  |none=>exact wpAny_getItem_str_slice (l:=none) (u:=none) (st:=none) hs rfl (post_val_or_str (G _ _ q))
  |int j M=>exact wpAny_getItem_str_slice (l:=none) (u:=some (j,M)) (st:=none) hs rfl (post_val_or_str (G _ _ q))
 |int i ti=>
  cases O with
  |none=>exact wpAny_getItem_str_slice (l:=some (i,ti)) (u:=none) (st:=none) hs rfl (post_val_or_str (G _ _ q))
  |int j M=>exact wpAny_getItem_str_slice (l:=some (i,ti)) (u:=some (j,M)) (st:=none) hs rfl (post_val_or_str (G _ _ q))
def u8 {A:Around}{E:QV}{s:Shared}{prog:Program}{w:World}{t sl:Addr}{aq:AV}{vl U:Value}{lo hi:OI}{Q:QV}(G:IsTup s.heap t aq)(hs:s.heap.IsSliceOf sl vl U .none)(pl:IsPart vl lo)(pu:IsPart U hi)
  (h0:HT.cc aq.size 0 lo=0) (h1:HT.cc aq.size aq.size hi=aq.size) (h:Q (.ref t) s):wpAny (model prog w) A (getItem (.ref t) (.ref sl)) Q E s:=by
 obtain⟨os,M,O,GI⟩:=id hs
 have hT:s.TypeIs (.ref sl) "slice":=⟨os,M,O⟩
 unfold getItem
 try with_reducible refine wpAny_holding ?_
 first|refine wX (wY ?_)|skip
 refine wX (wpAny_sequenceKey G.typeIs (by decide) ?_)
 refine wX (wpAny_callSpecial?_slot (name:=Str.ofString "__getitem__") G.typeIs PyProof.Rows.slot_tuple_getitem (wpAny_call_entry PyProof.Rows.slot_tuple_getitem G.typeIs entry_tuple_getitem ?_ (args_tuple_getitem _ _)))
 show wpAny _ _ (Builtin.Tuple.tupleItemsOf (.ref t)>>=_) _ _ s
 refine wX (tupleItemsOf_ G ?_)
 refine wX (wpAny_typeOf hT ?_)
 rw[if_pos (by decide)]
 refine wX (HT.fN hs pl pu ?_)
 have T:(((HT.cc aq.size 0 lo:Nat):Int) == 0 && (1:Int) == 1 && (HT.cc aq.size aq.size hi - HT.cc aq.size 0 lo) == aq.size)=true:=by
  rw[h0,h1];simp
 show wpAny _ _ (if(((HT.cc aq.size 0 lo:Nat):Int) == 0 && (1:Int) == 1 && (HT.cc aq.size aq.size hi - HT.cc aq.size 0 lo) == aq.size)=true then _ else _) _ _ s
 rw[if_pos T]
 refine wX ?_
 unfold Builtin.Tuple.tupleIsExact
 refine wX (wpAny_typeOf G.typeIs (wY ?_))
 show wpAny _ _ (if((Value.type "tuple") == Value.type "tuple")=true then _ else _) _ _ s
 rw[if_pos (by decide)]
 refine wX (wpAny_rule ?_)
 exact wY ⟨_,rfl,wY h⟩
def zF:vz X (λx lo hi H Q=>∃a xs,x=.ref a/\fz X.K H a xs/\HT.cc xs.length 0 lo=0/\HT.cc xs.length xs.length hi=xs.length/\Q (.ref a) H):=by
 intro aa s σ H x v vl U lo hi sl Q I O hs pl T h;obtain⟨a,xs,rfl,hx,h0,h1,q⟩:=h;cases O
 obtain⟨its,r,M,hz⟩:=I.tuple hx;have G:its.toArray.size=xs.length:=by rw[vH];exact r.length.symm
 refine⟨"tuple",_,PyProof.Rows.slot_tuple_getitem.lookup,M.typeIs,?_⟩;exact u8 M hs pl T (by rw[G];exact h0) (by rw[G];exact h1) ⟨.ref a,H,I,rfl,q⟩
@[simp] def jz (G:FE)(M O:FO):FE:=λρ=>(G ρ).bind λx=>(M ρ).bind λl=>(O ρ).bind λh=>match x.1 with
 |.lst ds=>some (.lst (dI ds l h),true)
 |.tup ds=>some (.tup (dI ds l h),false)
 |.str z=>if z.length<=sizeLine then some (.str (Txt.slice z l h),false)else none
 |_=>none
def ro {ds:LD}{lo hi:OI}(h0:HT.cc ds.length 0 lo=0)(h1:HT.cc ds.length ds.length hi=ds.length):dI ds lo hi=ds:=by
 unfold dI;rw[h0,h1];simp
def bZ {lo hi:Option Expr}{p2:Pos}{fa:FE}{fl fh:FO}(ha:JE X e fa)(hl:JO X lo fl)(hh:JO X hi fh):JE X (.Subscript e (.Slice lo hi none p2) pos) (jz fa fl fh):=by
 refine PE.to (ww (vz.or (vz.or zc BB) (vz.or z9 zF)) ha hl hh) λσ H Q q=>?_;obtain⟨B,ρ,d,b,sB,r,e,q⟩:=q;obtain⟨x,ex,e⟩:=oX e;obtain⟨l,el,e⟩:=oX e;obtain⟨h,eh,e⟩:=oX e;refine⟨B,ρ,x.1,x.2,sB,r,ex,λv H1 N1 M i1 _=>⟨N1,ρ,l,M.nh,r.mono M.bn,el,λH2 h2=>⟨N1,ρ,h,M.nh.trans h2,r.mono M.bn,eh,λH3 h3=>?_⟩⟩⟩;have O:aJ N1 H3:=M.nh.trans (h2.trans h3);have U:=q.into (M.trans (.grow M.nh (h2.trans h3)));obtain⟨xd,xb⟩:=x;dsimp only at e i1;cases i1 with
 |@tup a' vs ds hs G=>
  cases e
  by_cases hw:HT.cc ds.length 0 l=0/\HT.cc ds.length ds.length h=ds.length
  ·rw[ro hw.1 hw.2]at U;exact .inr (.inr ⟨a',vs,rfl,aL O hs,by rw[G.length];exact hw.1,by rw[G.length];exact hw.2,U.one O (.tup hs G)⟩)
  ·refine .inl (.inr ⟨a',vs,rfl,aL O hs,by rw[G.length];exact hw,λp hp=>?_⟩);have T:=Ext.laid (o:=.tup (mh vs l h)) O hp;exact U _ _ _ T (.tup (fz.of a8) ((oe G).mono T.bn)) (by simp)
 |@lst a' vs ds hs G=>
  cases e
  refine .inl (.inl ⟨a',vs,rfl,O.seq hs,λp hp=>?_⟩);have T:=Ext.laid (o:=.lst (mh vs l h)) O hp;exact U _ _ _ T (.lst (dZ.of a8) ((oe G).mono T.bn)) λ_=>⟨p,_,_,rfl,rfl,hp,a8,(oe G).mono T.bn⟩
 |str z=>
  dsimp only at e;split at e
  ·rename_i hz;cases e
   exact .inr (.inl ⟨z,rfl,hz,U.one O (.str _)⟩)
  ·cases e
 |_=>cases e
def const_int {K:Frag}{y:Str}{i:Int}{t:Tok}(e:nsIn K mainGlobals y=some (some (.int i t))):∃u v,nsIn K mainGlobals y=some (some u)/\aP v u/\∀B,Is K B v (.int i):=⟨_,.int i,e,⟨t,rfl⟩,λ_=>.int i⟩
noncomputable def oo:Value->D->Bool
 |.none,.non=>true
 |.bool a,.bl b=>a == b
 |.int i _,.int j=>decide (i=j)
 |.str i _,.str j=>decide (i=j)
 |_,_=>false
def gn:LU->LD->Bool
 |[],[]=>true
 |u::us,d::ds=>oo u d && gn us ds
 |_,_=>false
theorem hG {K:Frag}{B:Hp}:∀ {u:Value}{d:D},oo u d=true->∃v,aP v u/\Is K B v d
 |.none,.non,_=>⟨.non,rfl,.non⟩
 |.bool a,.bl b,h=>by
  have:a=b:=eq_of_beq h;subst this;exact⟨.bl a,rfl,.bl a⟩
 |.int i t,.int j,h=>by
  have:i=j:=of_decide_eq_true h;subst this;exact⟨.int i,⟨t,rfl⟩,.int i⟩
 |.str i t,.str j,h=>by
  have:i=j:=of_decide_eq_true h;subst this;exact⟨.str i,⟨t,rfl⟩,.str i⟩
theorem gp {K:Frag}:∀ {us:LU}{ds:LD},gn us ds=true->∃vs,L2.aO vs us/\∀B,IsL K B vs ds
 |[],[],_=>⟨[],.nil,λ_=>.nil⟩
 |u::us,d::ds,h=>by
  rw[gn,vD]at h;obtain⟨vs,r,i⟩:=gp (K:=K) h.2;obtain⟨v,M,_⟩:=hG (K:=K) (B:=λ_=>none) h.1;refine⟨v::vs,.cons M r,λB=>?_⟩;obtain⟨T,G,U⟩:=hG (K:=K) (B:=B) h.1;have:T=v:=by have O:=M.abs;rw[G.abs]at O;exact vK O
  subst this;exact .cons U (i B)
def const_tup {K:Frag}{y:Str}{a:Addr}{od:Option Addr}{its:AV}{n:Nat}{kK:Array (Option Value)}{ds:LD}(e:nsIn K mainGlobals y=some (some (.ref a)))
  (l:K.lookup a=some ⟨.type "tuple",od,.seq its n,kK⟩) (h:(decide (its.size<=1000) && gn its.toList ds)=true):∃u v,nsIn K mainGlobals y=some (some u)/\aP v u/\∀B,Is K B v (.tup ds):=by
 rw[vD]at h;obtain⟨vs,r,i⟩:=gp (K:=K) h.2;exact⟨_,.ref a,e,rfl,λB=>.tup (.inr ⟨_,its,n,l,rfl,rfl,le_of_lt (lt_of_le_of_lt (of_decide_eq_true h.1) (by decide)),r⟩) (i B)⟩
end
section
variable {X:Cx}{a b o e:Expr}{pos:Pos}{x:Str}{p:Pos}{tg:Expr}
def BW {name:Str}{id:String}{M G:Pos}{op:D->D->OB}{fo fe:FE}(slot:Slot "str" name id)(GJ:typeOf (.builtin id)=pure (.type "method_descriptor"))
  (hm:yZ X id (λx xs H Q=>∃y,xs=[y]/\rD X.K op x y H Q)) (yA:∀dx dy r,op dx dy=some r->∃z,dx=.str z) (ho:JE X o fo) (he:JE X e fe)
  (O:attributeBase o name X.env (eval o X.env)=eval o X.env:=by rfl)
  (yB:((backTo G (starEach [e] X.env)).all (λx=>!x.1) && (backToKw G (keywordEach [] X.env)).all (λx=>x.1.isSome)
   && decide ([e].length+([]:List Keyword).length+(if([]:List Keyword).isEmpty then 0 else 1)<30))=true:=by rfl)
  (T:(M.endLine == G.line)=true:=by rfl) (hs:starEach [e] X.env=[(false,eval e X.env)]:=by rfl):
  JE X (.Call (.Attribute o name M) [e] [] G) (f2 op fo fe):=by
 refine PE.to (mB PySem.F.plainAttrs_str slot GJ hm ho (cy he dP hs) O yB T hs rfl) λσ H Q q=>?_;obtain⟨B,ρ,d,bb,sB,r,ee,q⟩:=q;obtain⟨x1,ex,ee⟩:=oX ee;obtain⟨y1,ey,ee⟩:=oX ee;obtain⟨z,hz⟩:=yA _ _ _ ee;refine⟨B,ρ,x1.1,x1.2,sB,r,ex,λv H1 N1 U i1 _=>?_⟩;rw[hz]at i1;cases i1
 refine⟨show "str" = "str" from rfl,N1,ρ,y1.1,y1.2,U.nh,r.mono U.bn,ey,λv2 H2 N2 EQ i2 _=>⟨v2,rfl,N2,.str z,y1.1,d,bb,EQ.nh,.str z,i2,by rw[←hz];exact ee,q.into (U.trans EQ)⟩⟩
@[simp] noncomputable def BX:D->Option Str
 |.str z=>some z
 |_=>none
def fD:LD->Option LS
 |[]=>some []
 |d::ds=>(BX d).bind λz=>(fD ds).map (z :: ·)
@[simp] def De:fD []=some []:=rfl
@[simp] def rq (d:D)(ds:LD):fD (d::ds)=(BX d).bind λz=>(fD ds).map (z :: ·):=rfl
@[simp] def u9 (G:LS):fD (G.map D.str)=some G:=by
 induction G with
 |nil=>rfl
 |cons z G M=>simp[M]
theorem eP {K:Frag}{B:Hp}:∀ {vs:LV}{ds:LD}{G:LS}{its:LU},L2.aO vs its->IsL K B vs ds->fD ds=some G->StrsAre its G
 |_,_,_,_,.nil,.nil,e=>by cases e;exact .nil
 |_,_,_,_,.cons r O,.cons i T,e=>by
  rw[rq]at e;obtain⟨z,M,e⟩:=oX e;obtain⟨G,U,e⟩:=oY e;subst e;cases i<;>simp only[BX]at M<;>try (cases M;done)
  cases M
  obtain⟨t,rfl⟩:=r;exact .cons _ t (eP O T U)
@[simp] def iS:D->D->OB
 |.str G,.lst ds=>(fD ds).bind λM=>if(M.map (·.length)).sum+M.length*G.length<=16777216 then some (.str (Txt.join G M),false)else none
 |.str G,.tup ds=>(fD ds).bind λM=>if(M.map (·.length)).sum+M.length*G.length<=16777216 then some (.str (Txt.join G M),false)else none
 |_,_=>none
def BY:yZ X "str.join" (λx xs H Q=>∃y,xs=[y]/\rD X.K iS x y H Q):=by
 intro aa s σ H x xs v us Q I rx rs h;obtain⟨y,rfl,B,dx,dy,d,bb,M,ix,iy,G,q⟩:=h;obtain⟨u1,rfl,r1⟩:=gA rs;cases ix<;>(try (simp[iS]at G;done))
 obtain⟨t,rfl⟩:=rx;cases iy<;>(try (simp[iS]at G;done))
 ·rename_i h hl;simp only[iS]at G;obtain⟨zs,O,G⟩:=oX G;split at G
  ·rename_i hok;cases G
   cases r1
   obtain⟨its,T,U,z1⟩:=I.tuple (aL M h);exact join_tuple U (by simpa using eP T hl O) hok λt' k=>⟨.str _,H,I.tok k,⟨t',rfl⟩,q.one M (.str _)⟩
  ·cases G
 ·rename_i h hl;simp only[iS]at G;obtain⟨zs,O,G⟩:=oX G;split at G
  ·rename_i hok;cases G
   cases r1
   obtain⟨its,T,U,z1⟩:=I.list (M.seq h);exact join_list U.isList (by simpa using eP T hl O) hok λt' k=>⟨.str _,H,I.tok k,⟨t',rfl⟩,q.one M (.str _)⟩
  ·cases G
def wW (dx G:D)(r:D×Bool)(h:iS dx G=some r):∃z,dx=.str z:=by
 cases dx<;>first|exact⟨_,rfl⟩|(cases G<;>simp[iS]at h)
noncomputable def e7:LN->LD->Env->Option Env
 |[],[],ρ=>some ρ
 |i::is,d::ds,ρ=>e7 is ds (ρ.set i (some (d,false)))
 |_,_,_=>none
@[simp] def mF (ρ:Env):e7 [] [] ρ=some ρ:=by rw[e7]
@[simp] def iz (i:Nat)(is:LN)(d:D)(ds:LD)(ρ:Env):e7 (i::is) (d::ds) ρ=e7 is ds (ρ.set i (some (d,false))):=by rw[e7]
@[simp] def Ee (d:D)(ds:LD)(ρ:Env):e7 [] (d::ds) ρ=none:=by simp only[e7]
@[simp] def Ef (i:Nat)(is:LN)(ρ:Env):e7 (i::is) [] ρ=none:=by simp only[e7]
@[simp] def mG (is:LN):FG:=λd ρ=>match d with|.tup ds=>e7 is ds ρ|_=>none
def lh:LN->Bq
 |[]=>Dw
 |i::is=>A1 (g9 i) (lh is)
def wZ:aJ (cg N (own σ ρ)) (cg N (own (σ.set i (some v)) (ρ.set i (some (d,false))))):=cQ λa u e q=>⟨e,λz=>q (by
 rcases iN z with⟨_,d',p⟩|⟨j,_,d',G,M⟩
 ·cases p
 ·exact⟨j,d',G,M⟩)⟩
theorem mH {K:Frag}:∀ {is:LN}{vs:LV}{ds:LD}{B0 H0 N H:Hp}{σ:St}{ρ ρ':Env}{Q:St->Hp->Prop},cb K B0 H0 N H σ ρ->IsL K (cg N (own σ ρ)) vs ds->e7 is ds ρ=some ρ'->(∀G,cb K B0 H0 N H G ρ'->Q G H)->lh is vs σ H Q
 |[],_,_,_,_,_,_,_,_,_,_,s,.nil,e,k=>by
  rw[mF]at e;cases e;exact⟨rfl,k _ s⟩
 |[],_,_,_,_,_,_,_,_,_,_,_,.cons _ _,e,_=>by simp at e
 |_::_,_,_,_,_,_,_,_,_,_,_,_,.nil,e,_=>by simp at e
 |i::is,_,_,_,_,_,_,_,_,_,_,s,.cons h hs,e,k=>by
  rw[iz]at e;exact⟨_,_,rfl,mH (s.bind h) (hs.mono wZ) e k⟩
theorem jC:∀ {is:LN}{ds:LD}{ρ ρ':Env},e7 is ds ρ=some ρ'->ds.length=is.length
 |[],[],_,_,_=>rfl
 |_::_,_::_,_,_,e=>by rw[iz]at e;simp[jC e]
 |[],_::_,_,_,e=>by simp at e
 |_::_,[],_,_,e=>by simp at e
def AE {K:Frag}{is:LN}:zk K (mG is) (Bs K is.length (lh is)):=by
 intro B0 H0 N H σ ρ ρ' v d Q s h e k;cases h with
 |@tup a vs ds O hl=>
  have M:e7 is ds ρ=some ρ':=e;exact⟨a,vs,rfl,aL (bi.trans s.ext.nh) O,by rw[hl.length];exact jC M,mH s hl M λG T=>k G H ⟨N,T⟩⟩
 |_=>cases e
theorem mI {K:Frag}{n:Nat}{B H:Hp}{M:Env}{Q:St->Hp->Prop}(cl:∀i,i<n->M[i]? = some none):∀ {is:LN}{vs:LV}{ds:LD}{σ:St}{ρ O:Env},(∀i∈is,i<n)->dz K B σ ρ->IsL K B vs ds->e7 is ds ρ=some O->ρ.length=σ.length->ρ.length=M.length ->
  (∀G,dz K B G O->(∀U,dz K U σ M->dz K U G M)->M.length=G.length->Q G H)->lh is vs σ H Q
 |[],_,_,_,_,_,_,rp,.nil,e,l1,l2,k=>by
  rw[mF]at e;cases e;exact⟨rfl,k _ rp (λ_ z=>z) (by omega)⟩
 |[],_,_,_,_,_,_,_,.cons _ _,e,_,_,_=>by simp at e
 |_::_,_,_,_,_,_,_,_,.nil,e,_,_,_=>by simp at e
 |i::is,_,_,σ,ρ,_,hn,rp,.cons (v:=v) h hs,e,l1,l2,k=>by
  rw[iz]at e;have hi:=hn i mX;have T:i<σ.length:=by
   have:=(vV (cl i hi)).1;omega
  refine⟨_,_,rfl,mI cl (λj hj=>hn j (mZ _ hj)) ⟨rp.tb,λj d b q=>?_⟩ hs e (by simpa using l1) (by simpa using l2) λG r1 r2 l=>k G r1 (λU z=>r2 U ⟨z.tb,λj d b q=>?_⟩) l⟩
  ·rcases bu q with⟨rfl,pp⟩|⟨ne,pp⟩
   ·cases pp
    exact⟨v,by simp[T],h⟩
   ·obtain⟨w,h1,h2⟩:=rp.at' j d b pp;exact⟨w,by rw[vC ne];exact h1,h2⟩
  ·obtain⟨w,h1,h2⟩:=z.at' j d b q;have ne:i≠j:=λz=>by subst z;rw[cl i hi]at q;cases q
   exact⟨w,by rw[vC ne];exact h1,h2⟩
def AF {K:Frag}{n:Nat}{is:LN}(hn:∀i∈is,i<n):A9 K n (mG is) (Bs K is.length (lh is)):=by
 intro B H σ ρ G v d Q cl rep s h e hl k;cases h with
 |@tup a vs ds T M=>
  have O:e7 is ds ρ=some G:=e;exact⟨a,vs,rfl,aL s T,by rw[M.length];exact jC O,mI cl hn rep M O hl rfl k⟩
 |_=>cases e
end
section
variable {prog:Program}{w:World}{A:Around}{E:QV}{s:Shared}
def rz (st:s.heap.IsTupleIter it l i)(M:s.heap.IsTuple l aq)(O:aq[i]? = some v)
  (k:∀h',h'.IsTupleIter it l (i+1)->Heap.SameBut it s.heap h'->Q v { s with heap:=h' }):wpAny (model prog w) A (Builtin.SmallTypes.nextOf (.ref it)) Q E s:=by
 obtain⟨o1,G,T,d1⟩:=id st;obtain⟨o2,U,_,n2,d2⟩:=M;unfold Builtin.SmallTypes.nextOf;refine wX (wpAny_callSpecial?_slot (name:=Str.ofString "__next__") st.typeIs slot_tuple_iterator_next (wpAny_call_entry slot_tuple_iterator_next st.typeIs PySem.F.entry_tuple_iterator_next ?_ (PySem.F.args_tuple_iterator_next_1 _)));show wpAny _ _ (field (.ref it) 0>>=_) _ _ _;refine wX (wpAny_field G d1 (x:=.ref l) rfl ?_);show wpAny _ _ (if(Value.ref l == Value.none)=true then _ else _) _ _ _;rw[if_neg (λz=>uY z:¬((Value.ref l == Value.none)=true))];show wpAny _ _ (field (.ref it) 1>>=_) _ _ _;refine wX (wpAny_field G d1 (x:=.int i 0) rfl ?_);show wpAny _ _ (seqItems? (.ref l)>>=_) _ _ _;refine wX (wpAny_seqItems U d2 ?_);simp only[O,toNat_natCast];refine wX (wpAny_setField G d1 (by simp) (wY ⟨v,rfl,wY (k _ ?_ (vW ..))⟩));exact⟨_,Heap.get?_update_self _ G (Obj.isFreed_of_fields (Obj.data_mapFields d1 _)),(Obj.cls_mapFields ..).trans T,by rw[Obj.data_mapFields d1];simp[rawInt]⟩
def uA (M:A.handled=none)(st:s.heap.IsTupleIter it l i)(O:s.heap.IsTuple l aq)(T:aq[i]? = none)
  (k:∀h' x,Heap.ExtBut it s.heap h'->(∃o,h'.get? x=some o/\o.cls=.type "StopIteration")->E (.ref x) { s with heap:=h' }):wpAny (model prog w) A (Builtin.SmallTypes.nextOf (.ref it)) Q E s:=by
 obtain⟨o1,G,c1,d1⟩:=id st;obtain⟨o2,U,_,n2,d2⟩:=O;unfold Builtin.SmallTypes.nextOf;refine wX (wpAny_callSpecial?_slot (name:=Str.ofString "__next__") st.typeIs slot_tuple_iterator_next (wpAny_call_entry slot_tuple_iterator_next st.typeIs PySem.F.entry_tuple_iterator_next ?_ (PySem.F.args_tuple_iterator_next_1 _)));show wpAny _ _ (field (.ref it) 0>>=_) _ _ _;refine wX (wpAny_field G d1 (x:=.ref l) rfl ?_);show wpAny _ _ (if(Value.ref l == Value.none)=true then _ else _) _ _ _;rw[if_neg (λz=>uY z:¬((Value.ref l == Value.none)=true))];show wpAny _ _ (field (.ref it) 1>>=_) _ _ _;refine wX (wpAny_field G d1 (x:=.int i 0) rfl ?_);show wpAny _ _ (seqItems? (.ref l)>>=_) _ _ _;refine wX (wpAny_seqItems U d2 ?_);simp only[T,toNat_natCast];refine wX (wpAny_rule (wX (wpAny_setField G d1 (by simp) ?_)));show wpAny _ _ (newExc (.type "StopIteration") []>>=_) _ _ _;refine wX ?_;simp only[newTuple,newExc];refine wX (wpAny_newObj_type ?_ (by size_fits));refine wX (m:=firstArgMember _ _) (wpAny_of_eq (a:=Value.none) (by first|(simp only[firstArgMember];rfl)|rfl) ?_);refine wpAny_newObj_type ?_ (by size_fits);simp only[raiseNew];refine wX (wpAny_handled ?_);first|rw[M]|rw[show A.in1.handled=none from M]
 exact wX (wY (wpAny_throw (k _ _ (((vW ..).extBut.push _).push _) ⟨_,vY _ rfl,rfl⟩)))
end
def iH:Bool->Heap->Addr->Addr->Nat->Prop
 |true,h,it,a,i=>h.IsListIter it a i
 |false,h,it,a,i=>h.IsTupleIter it a i
def i0:Bool->Heap->Addr->AV->Prop
 |true,h,a,aq=>h.IsList a aq
 |false,h,a,aq=>h.IsTuple a aq
def ku (k:Bool)(K:Frag)(H:Hp)(a:Addr)(xs:LV):Prop:=match k with|true=>dZ K H a xs|false=>fz K H a xs
def iH.ob (st:iH k h it a i):∃o,h.get? it=some o/\∀v,o.data≠.cell v:=by
 cases k<;>(obtain⟨o,g,_,d⟩:=st;exact⟨o,g,λv z=>by rw[d]at z;cases z⟩)
def iH.upon (st:iH k h it a i)(g:∀o,h.get? it=some o->h'.get? it=some o):iH k h' it a i:=by
 cases k<;>(obtain⟨o,e,r⟩:=st;exact⟨o,g o e,r⟩)
def i0.upon (st:i0 k h a aq)(g:∀o,h.get? a=some o->h'.get? a=some o):i0 k h' a aq:=by
 cases k<;>(obtain⟨o,e,r⟩:=st;exact⟨o,g o e,r⟩)
def i0.lt (st:i0 k h a aq):a<h.objs.size:=by
 cases k<;>(obtain⟨o,e,r⟩:=st;exact vX e)
def ku.same {k:Bool}{K:Frag}{H H':Hp}{a:Addr}{xs:LV}(h:ku k K H a xs)(e:aJ H H'):ku k K H' a xs:=by
 cases k
 ·exact aL e h
 ·exact e.seq h
def ku.vals (I:Inv X aa σ H s)(h:ku k X.K H a xs):∃its:LU,aO xs its/\i0 k s.heap a its.toArray/\xs.length<=sizeLine:=by
 cases k
 ·exact I.tuple h
 ·obtain⟨its,r,p,z⟩:=I.list h;exact⟨its,r,p.isList,z⟩
def ku.inj (I:Inv X aa σ H s)(h:ku k X.K H a xs)(h':ku k X.K H a ys):xs=ys:=by
 cases k
 ·exact I.tuple_inj h h'
 ·exact I.list_inj h h'
section
variable {prog:Program}{w:World}{A:Around}{E:QV}{s:Shared}
def eJ (st:iH k s.heap it l i)(G:i0 k s.heap l aq)(M:aq[i]? = some v)
  (q:∀h',iH k h' it l (i+1)->Heap.SameBut it s.heap h'->Q v { s with heap:=h' }):wpAny (model prog w) A (Builtin.SmallTypes.nextOf (.ref it)) Q E s:=by
 cases k
 ·exact rz st G M q
 ·exact wpAny_nextOf_list_item st G M q
def iT (G:A.handled=none)(st:iH k s.heap it l i)(M:i0 k s.heap l aq)(O:aq[i]? = none)
  (q:∀h' x,Heap.ExtBut it s.heap h'->(∃o,h'.get? x=some o/\o.cls=.type "StopIteration")->E (.ref x) { s with heap:=h' }):wpAny (model prog w) A (Builtin.SmallTypes.nextOf (.ref it)) Q E s:=by
 cases k
 ·exact uA G st M O q
 ·exact wpAny_nextOf_list_end G st M O q
end
noncomputable def Fk (k:Bool)(l:Addr):Obj:={ cls:=.type (if k=true then "list_iterator" else "tuple_iterator"),data:=.fields #[.ref l,.int 0 0] }
def sX (G:i0 k s.heap l aq)
  (q:Q (.ref s.heap.objs.size) { s with heap:=s.heap.push (Fk k l) }):wpAny (model prog w) A (pyIter (.ref l)) Q E s:=by
 cases k
 ·exact wpAny_pyIter_tuple G q
 ·exact wpAny_pyIter_list G q
def i0.push (st:i0 k h a aq)(o:Obj):i0 k (h.push o) a aq:=st.upon λ_ e=>vZ _ e
section
variable (k1 k2:Bool) (h:Heap) (l1 l2:Addr)
abbrev zA:Heap:=h.push (Fk k1 l1)
abbrev zB:Heap:=(zA k1 h l1).push (Fk k2 l2)
abbrev zC:Heap:=(zB k1 k2 h l1 l2).push { cls:=.type "tuple",data:=.seq #[.ref h.objs.size,.ref (zA k1 h l1).objs.size] }
abbrev zD:Heap:=(zC k1 k2 h l1 l2).push { cls:=.type "tuple",data:=.seq #[.none,.none] }
abbrev zE:Heap:=(zD k1 k2 h l1 l2).push { cls:=.type "zip",data:=.fields #[.none,.bool false,.bool false,.ref (zB k1 k2 h l1 l2).objs.size,.ref (zC k1 k2 h l1 l2).objs.size] }
end
def r0 (k1 k2:Bool)(l1 l2:Addr)(xs ys:AV):Meets (Builtin.«zip.__new__» ⟨[.type "zip",.ref l1,.ref l2],[]⟩) (λ_ R s=>i0 k1 s.heap l1 xs/\i0 k2 s.heap l2 ys /\
   R (.ok (.ret (.ref (zD k1 k2 s.heap l1 l2).objs.size))) { s with heap:=zE k1 k2 s.heap l1 l2 }) :=
 .of_wp λprog w A R s hs=>by
  obtain⟨G,g,d,M,os⟩:=s;obtain⟨T,U,hs⟩:=hs;have O:=sub_zip;have p1:i0 k1 (Shared.heap ⟨G,g,d,M,os⟩) l1 xs:=T;have p2:i0 k2 (Shared.heap ⟨G.push (Fk k1 l1),g,d,M,os⟩) l2 ys:=i0.push U _;wp_walk using sX p1,sX p2;exact⟨_,rfl,hs⟩
section
variable {prog:Program}{w:World}{A:Around}{E:QV}{s:Shared}
def sY (q1:i0 k1 s.heap l1 xs)(q2:i0 k2 s.heap l2 ys)
  (q:∀h',IsZip h' (s.heap.objs.size+4) (s.heap.objs.size+2) (s.heap.objs.size+3) .none->IsPair h' (s.heap.objs.size+2) (.ref s.heap.objs.size) (.ref (s.heap.objs.size+1))->IsPair h' (s.heap.objs.size+3) .none .none ->
   iH k1 h' s.heap.objs.size l1 0->iH k2 h' (s.heap.objs.size+1) l2 0->(∀c o,s.heap.get? c=some o->h'.get? c=some o)->Q (.ref (s.heap.objs.size+4)) { s with heap:=h' }):
  wpAny (model prog w) A (call (.type "zip") [.ref l1,.ref l2]) Q E s:=by
 refine callType_new PySem.F.called_zip (by decide) (PySem.F.typeCall_zip_2 _ _) (PySem.F.newCall_zip_2 _ _) (λobj=>PySem.F.args_object_init_3 obj _ _) PySem.F.entry_zip_new (r0 k1 k2 l1 l2 xs ys) ⟨q1,q2,?_⟩;have n1:(zA k1 s.heap l1).objs.size=s.heap.objs.size+1:=Heap.size_push ..;have n2:(zB k1 k2 s.heap l1 l2).objs.size=s.heap.objs.size+2:=by rw[Heap.size_push,n1]
 have n3:(zC k1 k2 s.heap l1 l2).objs.size=s.heap.objs.size+3:=by rw[Heap.size_push,n2]
 have n4:(zD k1 k2 s.heap l1 l2).objs.size=s.heap.objs.size+4:=by rw[Heap.size_push,n3]
 have M:∀ {c o},(zD k1 k2 s.heap l1 l2).get? c=some o->(zE k1 k2 s.heap l1 l2).get? c=some o:=λe=>vZ _ e;have O:∀ {c o},(zC k1 k2 s.heap l1 l2).get? c=some o->(zE k1 k2 s.heap l1 l2).get? c=some o:=λe=>M (vZ _ e);have T:∀ {c o},(zB k1 k2 s.heap l1 l2).get? c=some o->(zE k1 k2 s.heap l1 l2).get? c=some o:=λe=>O (vZ _ e);have U:∀ {c o},(zA k1 s.heap l1).get? c=some o->(zE k1 k2 s.heap l1 l2).get? c=some o:=λe=>T (vZ _ e);have u1:∀ {c o},s.heap.get? c=some o->(zE k1 k2 s.heap l1 l2).get? c=some o:=λe=>U (vZ _ e);have G:(zE k1 k2 s.heap l1 l2).get? (zD k1 k2 s.heap l1 l2).objs.size=some _:=vY _ rfl;have g4:(zE k1 k2 s.heap l1 l2).get? (zC k1 k2 s.heap l1 l2).objs.size=some _:=M (vY _ rfl);have g3:(zE k1 k2 s.heap l1 l2).get? (zB k1 k2 s.heap l1 l2).objs.size=some _:=O (vY _ rfl);have g2:(zE k1 k2 s.heap l1 l2).get? (zA k1 s.heap l1).objs.size=some _:=T (vY _ (by cases k2<;>rfl))
 have g1:(zE k1 k2 s.heap l1 l2).get? s.heap.objs.size=some _:=U (vY _ (by cases k1<;>rfl))
 rw[n2,n3,n4]at G;rw[n1,n2]at g3;rw[n3]at g4;rw[n1]at g2;show _/\_;rw[n4];refine⟨⟨_,G,rfl⟩,q _ G g3 g4 ?_ ?_ λc o e=>u1 e⟩
 ·cases k1<;>exact⟨_,g1,rfl,rfl⟩
 ·cases k2<;>exact⟨_,g2,rfl,rfl⟩
structure ZApart (z TI TO i1 i2:Addr):Prop where
 tz:TI≠z
 oz:TO≠z
 az:i1≠z
 bz:i2≠z
 oa:TO≠i1
 ob:TO≠i2
 to:TI≠TO
 ta:TI≠i1
 tb:TI≠i2
 ab:i1≠i2
def pJ {k1 k2:Bool}{z TI TO i1 i2 l1 l2:Addr}{j:Nat}{xs ys:AV}{x y a b:Value}{Q:QV}(D:ZApart z TI TO i1 i2)(m1:l1≠z/\l1≠TO/\l1≠i1)(m2:l2≠z/\l2≠TO/\l2≠i1/\l2≠i2)
  (hz:IsZip s.heap z TI TO .none) (hI:IsPair s.heap TI (.ref i1) (.ref i2)) (hO:IsPair s.heap TO a b) (t1:iH k1 s.heap i1 l1 j) (t2:iH k2 s.heap i2 l2 j) (q1:i0 k1 s.heap l1 xs) (q2:i0 k2 s.heap l2 ys) (hx:xs[j]? = some x) (hy:ys[j]? = some y)
  (q:∀h',IsZip h' z TI TO (rawInt s.heap.objs.size)->IsPair h' TO x y->iH k1 h' i1 l1 (j+1)->iH k2 h' i2 l2 (j+1)->IsPair h' s.heap.objs.size x y->h'.objs.size=s.heap.objs.size+1 ->
   (∀c o,c≠z->c≠TO->c≠i1->c≠i2->s.heap.get? c=some o->h'.get? c=some o)->Q (.ref s.heap.objs.size) { s with heap:=h' }):
  wpAny (model prog w) A (Builtin.«zip.__next__» ⟨[.ref z],[]⟩) (λse s'=>∃v,se=.done (.ret v)/\Q v s') E s:=by
 show wpAny _ _ (field (.ref z) 2>>=_) _ _ s;refine wX (wpAny_field hz rfl (x:=.bool false) rfl ?_);show wpAny _ _ (field (.ref z) 3>>=_) _ _ s;refine wX (wpAny_field hz rfl (x:=.ref TI) rfl (wX (wpAny_seqItems hI rfl ?_)));show wpAny _ _ (Builtin.SmallTypes.ownedTupleIsFree (.ref z)>>=_) _ _ s;refine wX ?_;unfold Builtin.SmallTypes.ownedTupleIsFree;refine wX (wpAny_field hz rfl (x:=.none) rfl (wY ?_));simp only[if_true];refine wX (wpAny_rule (wX (wpAny_field hz rfl (x:=.ref TO) rfl (wX (wpAny_setField_rec hz (by simp) λg1 hz1 s1=>?_)))));replace hz1:IsZip g1 z TI TO .ellipsis:=hz1;refine wX ?_;simp only[forIn_cons,forIn_nil,List.zipIdx_cons,List.zipIdx_nil];refine wX (wX (wpAny_onRaise ?_));show wpAny _ _ (Builtin.SmallTypes.nextOf (.ref i1)>>=_) _ _ { s with heap:=g1 };refine wX (eJ (s:={ s with heap:=g1 }) (t1.upon λo e=>s1.extBut _ _ D.az e) (q1.upon λo e=>s1.extBut _ _ m1.1 e) hx λg2 t12 s2=>wY ?_);have ER:IsPair g2 TO a b:=s2.extBut _ _ D.oa (s1.extBut _ _ D.oz hO);refine wX (wpAny_seqItems ER rfl (wX (wpAny_updateSeq_pair ER λg3 hO3 s3=>?_)));replace hO3:IsPair g3 TO x b:=hO3;refine wX (wpAny_letGo (wY (wX (wX (wpAny_onRaise ?_)))));show wpAny _ _ (Builtin.SmallTypes.nextOf (.ref i2)>>=_) _ _ { s with heap:=g3 };have GV:∀ {c o},c≠z->c≠TO->c≠i1->s.heap.get? c=some o->g3.get? c=some o:=λM c2 c3 e=>s3.extBut _ _ c2 (s2.extBut _ _ c3 (s1.extBut _ _ M e));refine wX (eJ (s:={ s with heap:=g3 }) (t2.upon λo e=>GV D.bz D.ob.symm D.ab.symm e) (q2.upon λo e=>GV m2.1 m2.2.1 m2.2.2.1 e) hy λg4 t24 s4=>wY ?_);have Ij:IsPair g4 TO x b:=s4.extBut _ _ D.ob hO3;refine wX (wpAny_seqItems Ij rfl (wX (wpAny_updateSeq_pair Ij λG O s5=>?_)));replace O:IsPair G TO x y:=O;refine wX (wpAny_letGo (wY (wY (wX (wpAny_seqItems O rfl (wX (wpAny_newTuple ?_)))))));have sz:G.objs.size=s.heap.objs.size:=by rw[s5.1,s4.1,s3.1,s2.1,s1.1]
 have JP:∀c o,c≠z->c≠TO->c≠i1->c≠i2->s.heap.get? c=some o->G.get? c=some o:=λc o M c2 c3 c4 e=>s5.extBut _ _ c2 (s4.extBut _ _ c4 (GV M c2 c3 e));have Ik:IsZip G z TI TO .ellipsis:=s5.extBut _ _ D.oz.symm (s4.extBut _ _ D.bz.symm (s3.extBut _ _ D.oz.symm (s2.extBut _ _ D.az.symm hz1)));have JQ:iH k1 G i1 l1 (j+1):=t12.upon λo e=>s5.extBut _ _ D.oa.symm (s4.extBut _ _ D.ab (s3.extBut _ _ D.oa.symm e));have JR:iH k2 G i2 l2 (j+1):=t24.upon λo e=>s5.extBut _ _ D.ob.symm e;have Il:z<G.objs.size:=vX Ik;show wpAny _ _ (Builtin.SmallTypes.ownedTupleHandOut (.ref z) (.ref G.objs.size)>>=_) _ _ { s with heap:=G.push { cls:=.type "tuple",data:=.seq #[x,y] } };refine wX ?_;unfold Builtin.SmallTypes.ownedTupleHandOut;have JU:IsZip (G.push { cls:=.type "tuple",data:=.seq #[x,y] }) z TI TO .ellipsis:=vZ _ Ik;refine wX (wpAny_setField_rec JU (by simp) λg7 hz7 s7=>?_);replace hz7:IsZip g7 z TI TO (rawInt G.objs.size):=hz7;refine wpAny_setField_rec hz7 (by simp) λg8 T s8=>?_;replace T:IsZip g8 z TI TO (rawInt G.objs.size):=T;have U:∀c o,c≠z->G.get? c=some o->g8.get? c=some o:=λc o M e=>s8.extBut _ _ M (s7.extBut _ _ M (vZ _ e));have Im:IsPair g8 G.objs.size x y:=s8.extBut _ _ (ne_of_gt Il) (s7.extBut _ _ (ne_of_gt Il) (vY _ rfl));have Io:g8.objs.size=G.objs.size+1:=by rw[s8.1,s7.1,Heap.size_push]
 rw[sz]at T Im Io;refine wY ⟨_,rfl,?_⟩;show Q (.ref G.objs.size) _;rw[sz];exact q g8 T (U _ _ D.oz O) (JQ.upon λo e=>U _ o D.az e) (JR.upon λo e=>U _ o D.bz e) Im Io λc o M c2 c3 c4 e=>U c o M (JP c o M c2 c3 c4 e)
end
section
variable {prog:Program}{w:World}{A:Around}{E:QV}{s:Shared}
def sZ {k1 k2:Bool}{z TI TO i1 i2 l1 l2:Addr}{j:Nat}{xs ys:AV}{a b:Value}{Q:PySem.Fin->Shared->Prop}(hA:A.handled=none)(D:ZApart z TI TO i1 i2)(m1:l1≠z/\l1≠TO/\l1≠i1)(m2:l2≠z/\l2≠TO/\l2≠i1/\l2≠i2)
  (hz:IsZip s.heap z TI TO .none) (hI:IsPair s.heap TI (.ref i1) (.ref i2)) (hO:IsPair s.heap TO a b) (t1:iH k1 s.heap i1 l1 j) (t2:iH k2 s.heap i2 l2 j) (q1:i0 k1 s.heap l1 xs) (q2:i0 k2 s.heap l2 ys) (he:xs[j]? = none∨ys[j]? = none)
  (q:∀h' x,(∀c o,c≠z->c≠TO->c≠i1->c≠i2->s.heap.get? c=some o->h'.get? c=some o)->(∃o,h'.get? x=some o/\o.cls=.type "StopIteration")->E (.ref x) { s with heap:=h' }):
  wpAny (model prog w) A (Builtin.«zip.__next__» ⟨[.ref z],[]⟩) Q E s:=by
 show wpAny _ _ (field (.ref z) 2>>=_) _ _ s;refine wX (wpAny_field hz rfl (x:=.bool false) rfl ?_);show wpAny _ _ (field (.ref z) 3>>=_) _ _ s;refine wX (wpAny_field hz rfl (x:=.ref TI) rfl (wX (wpAny_seqItems hI rfl ?_)));show wpAny _ _ (Builtin.SmallTypes.ownedTupleIsFree (.ref z)>>=_) _ _ s;refine wX ?_;unfold Builtin.SmallTypes.ownedTupleIsFree;refine wX (wpAny_field hz rfl (x:=.none) rfl (wY ?_));simp only[if_true];refine wX (wpAny_rule (wX (wpAny_field hz rfl (x:=.ref TO) rfl (wX (wpAny_setField_rec hz (by simp) λg1 G s1=>?_)))));replace G:IsZip g1 z TI TO .ellipsis:=G;refine wX ?_;simp only[forIn_cons,forIn_nil,List.zipIdx_cons,List.zipIdx_nil];refine wX (wX (wpAny_onRaise ?_));show wpAny _ _ (Builtin.SmallTypes.nextOf (.ref i1)>>=_) _ _ { s with heap:=g1 };cases hx:xs[j]? with
 |none=>
  refine wX (iT (s:={ s with heap:=g1 }) hA (t1.upon λo e=>s1.extBut _ _ D.az e) (q1.upon λo e=>s1.extBut _ _ m1.1 e) hx λg2 x s2 hX=>?_);obtain⟨oU,M,U⟩:=hX;have F3:IsZip g2 z TI TO .ellipsis:=s2 _ _ D.az.symm G;have nz:x≠z:=λz'=>by subst z';rw[F3]at M;cases M;simp at U
  exact wpAny_setField_rec F3 (by simp) λg3 _ s3=>q g3 x (λc o O _ c3 _ e=>s3.extBut _ _ O (s2 _ _ c3 (s1.extBut _ _ O e))) ⟨oU,s3.extBut _ _ nz M,U⟩
 |some v=>
  have hy:ys[j]? = none:=by
   rcases he with h|h
   ·rw[hx]at h;cases h
   ·exact h
  refine wX (eJ (s:={ s with heap:=g1 }) (t1.upon λo e=>s1.extBut _ _ D.az e) (q1.upon λo e=>s1.extBut _ _ m1.1 e) hx λg2 t12 s2=>wY ?_);have ER:IsPair g2 TO a b:=s2.extBut _ _ D.oa (s1.extBut _ _ D.oz hO);refine wX (wpAny_seqItems ER rfl (wX (wpAny_updateSeq_pair ER λg3 hO3 s3=>?_)));refine wX (wpAny_letGo (wY (wX (wX (wpAny_onRaise ?_)))));show wpAny _ _ (Builtin.SmallTypes.nextOf (.ref i2)>>=_) _ _ { s with heap:=g3 };have T:∀ {c o},c≠z->c≠TO->c≠i1->s.heap.get? c=some o->g3.get? c=some o:=λO c2 c3 e=>s3.extBut _ _ c2 (s2.extBut _ _ c3 (s1.extBut _ _ O e));refine wX (iT (s:={ s with heap:=g3 }) hA (t2.upon λo e=>T D.bz D.ob.symm D.ab.symm e) (q2.upon λo e=>T m2.1 m2.2.1 m2.2.2.1 e) hy λg4 x s4 hX=>?_);obtain⟨oU,M,U⟩:=hX;have Ip:IsZip g4 z TI TO .ellipsis:=s4 _ _ D.bz.symm (s3.extBut _ _ D.oz.symm (s2.extBut _ _ D.az.symm G));have nz:x≠z:=λz'=>by subst z';rw[Ip]at M;cases M;simp at U
  exact wpAny_setField_rec Ip (by simp) λg5 _ s5=>q g5 x (λc o O c2 c3 c4 e=>s5.extBut _ _ O (s4 _ _ c4 (T O c2 c3 e))) ⟨oU,s5.extBut _ _ nz M,U⟩
end
def oq {X:Cx}{aa:AO}{σ:St}{H:Hp}{s:Shared}{h':Heap}{t':Nat}{ch:List Addr}(I:Inv X aa σ H s)(f:∀b∈ch,iJ X aa H b)(k:∀b o,b∉ch->s.heap.get? b=some o->h'.get? b=some o):Inv X aa σ H { s with heap:=h',toks:=t' }:=by
 have G:∀b u,H b=some u->b∉ch:=λb u e z=>by rw[(f b z).1]at e;cases e
 refine I.step (g':=s.gens) (d':=s.drawn) (ch:=ch) (λb hb=>?_) (λb o _ _ hc e _=>k b o hc e) (λb o _ _ hc e _=>⟨o.slots,k b o hc e⟩) (λ_ _ _ _ n=>n)
  (λb o hc e=>⟨o,k b o hc e⟩) (λ_ _ e=>e) (λ_ _ _ e=>e) (λ_ _ e=>e) (λm hm=>?_) (λb u e=>?_) I.bare
 ·obtain⟨_,f1,_,f3,f4,f5⟩:=f b hb;exact⟨f3,f1,f4,f5⟩
 ·obtain⟨o,es,M,O,r⟩:=hm;exact⟨o,es,M,k _ o (λz=>(f _ z).2.1 rfl) O,r⟩
 ·refine(I.hok b u e).stay (λc v hc q=>k c v ?_ q) (λ_ q=>q) (λ_ _ q=>q) λ_ _ _ q=>q;rcases hc with z|z
  ·rw[z];exact G b u e
  ·exact G c _ z
def AG {X:Cx}{aa:AO}{σ:St}{H:Hp}{s:Shared}{h':Heap}{t':Nat}{ch:List Addr}{a:Addr}{ob:HO}(I:Inv X aa σ H s)(f:∀b∈ch,iJ X aa H b)(k:∀b o,b∉ch->s.heap.get? b=some o->h'.get? b=some o)(ha:s.heap.objs.size<=a)
  (new:bH X.prog X.w (upd H a ob) h' a ob):Inv X aa σ (upd H a ob) { s with heap:=h',toks:=t' }:=by
 have hn:H a=none:=I.hok.fresh ha;have G:∀b u,H b=some u->b∉ch:=λb u e z=>by rw[(f b z).1]at e;cases e
 have M:∀b o,s.heap.get? b=some o->b≠a:=λb o e=>vS (vQ (vX e) ha);refine I.step (g':=s.gens) (d':=s.drawn) (ch:=ch) (λb hb=>?_) (λb o _ _ hc e _=>k b o hc e) (λb o _ _ hc e _=>⟨o.slots,k b o hc e⟩) (λb o _ e n=>by rw[aE (M b o e)];exact n)
  (λb o hc e=>⟨o,k b o hc e⟩) (λb xs e=>by rw[aE (b7 e hn)];exact e) (λb o u e=>by rw[aE (b7 e hn)];exact e) (λb ps e=>by rw[aE (b7 e hn)];exact e) (λm hm=>?_) (λb u e=>?_) I.bare
 ·obtain⟨_,f1,_,f3,f4,f5⟩:=f b hb;exact⟨f3,f1,f4,f5⟩
 ·obtain⟨o,es,O,T,r⟩:=hm;exact⟨o,es,O,k _ o (λz=>(f _ z).2.1 rfl) T,r⟩
 ·by_cases hb:b=a
  ·subst hb;rw[a8]at e;cases e;exact new
  ·rw[aE hb]at e;refine(I.hok b u e).stay (λc v hc q=>k c v ?_ q) (λc q=>?_) (λc xs q=>?_) λc o xs q=>?_
   ·rcases hc with z|z
    ·rw[z];exact G b u e
    ·exact G c _ z
   ·rw[aE (b7 q hn)];exact q
   ·rw[aE (b7 q hn)];exact q
   ·rw[aE (b7 q hn)];exact q
noncomputable def Go (K:Frag)(k1 k2:Bool)(G M:Addr):It :=
  ⟨λi H=>∃xs ys x y,ku k1 K H G xs/\ku k2 K H M ys/\xs[i]? = some x/\ys[i]? = some y,
   λi H v H'=>∃T x y,v=.ref T/\H T=none/\H'=upd H T (.tup [x,y])/\(∀xs,ku k1 K H G xs->xs[i]? = some x)/\(∀ys,ku k2 K H M ys->ys[i]? = some y),
   λi H=>∃xs ys,ku k1 K H G xs/\ku k2 K H M ys/\(xs.length<=i∨ys.length<=i)⟩
def xa {P:Program}{w:World}{K:Frag}{es:QD}{kt:Nat}{pt:Pos}{k1 k2:Bool}{a1 a2 z TI TO i1 i2:Addr}(D:ZApart z TI TO i1 i2)(m1:a1≠z/\a1≠TO/\a1≠i1)(m2:a2≠z/\a2≠TO/\a2≠i1/\a2≠i2):
  Turn P w K (.Tuple es kt pt) (Go K k1 k2 a1 a2) [z,TI,TO,i1,i2] z (λi h=>IsZip h z TI TO .none/\IsPair h TI (.ref i1) (.ref i2)/\(∃a b,IsPair h TO a b)/\iH k1 h i1 a1 i/\iH k2 h i2 a2 i) where
 mem:=by simp
 obj:=λi h st b hb=>by
  obtain⟨hz,M,⟨a,c,O⟩,U,t2⟩:=st;simp at hb;rcases hb with rfl|rfl|rfl|rfl|rfl
  ·exact⟨_,hz,λv z=>by cases z⟩
  ·exact⟨_,M,λv z=>by cases z⟩
  ·exact⟨_,O,λv z=>by cases z⟩
  ·exact U.ob
  ·exact t2.ob
 keep:=λi h h' st k=>by
  obtain⟨hz,M,⟨a,c,O⟩,U,t2⟩:=st;exact⟨k z (by simp) _ hz,k TI (by simp) _ M,⟨a,c,k TO (by simp) _ O⟩,U.upon λo e=>k i1 (by simp) o e,t2.upon λo e=>k i2 (by simp) o e⟩
 item:=by
  intro X hP hw hK hc i aa s σ H E I hf st hg;subst hP hw hK;obtain⟨hz,M,⟨a,c,O⟩,U,t2⟩:=st;obtain⟨xs,ys,x,y,q1,q2,hx,hy⟩:=hg;obtain⟨its,r1,p1,z1⟩:=q1.vals I;obtain⟨y9,r2,p2,z2⟩:=q2.vals I;obtain⟨u,hu,ru⟩:=r1.get hx;obtain⟨v,hv,rv⟩:=r2.get hy;have hT:s.TypeIs (.ref z) "zip":=⟨_,hz,rfl⟩;have fresh:H s.heap.objs.size=none:=I.hok.fresh (vT _);have lt:∀ {c o},s.heap.get? c=some o->c≠s.heap.objs.size:=λe=>vS (vX e);have l1:i1≠s.heap.objs.size:=by obtain⟨o,e,_⟩:=U.ob;exact lt e
  have l2:i2≠s.heap.objs.size:=by obtain⟨o,e,_⟩:=t2.ob;exact lt e
  unfold pyNext;refine wX (wpAny_attempt (wpAny_callSpecial?_slot (name:=Str.ofString "__next__") hT slot_zip_next (wpAny_call_entry slot_zip_next hT entry_zip_next (pJ D m1 m2 hz M O U t2 p1 p2 (by simpa using hu) (by simpa using hv) λh' b1 b2 b3 b4 b5 b6 bk=>wY ?_) (args_zip_next_1 _))));refine⟨_,rfl,wpAny_letOwnedTupleGo_zip (s:={ s with heap:=h' }) b1 λh2 c1 s2=>?_⟩;have G:Heap.SameBut z h' h2:=s2;have kk:∀b o,b∉[z,TI,TO,i1,i2]->s.heap.get? b=some o->h2.get? b=some o:=λb o hb e=>
   G.extBut _ _ (λq=>hb (by simp[q])) (bk b o (λq=>hb (by simp[q])) (λq=>hb (by simp[q])) (λq=>hb (by simp[q])) (λq=>hb (by simp[q])) e)
  have I1:Inv X aa σ H { s with heap:=h2 }:=oq (t':=s.toks) I hf kk;have zT:s.heap.objs.size≠z:=(lt hz).symm;have new:bH X.prog X.w (upd H s.heap.objs.size (.tup [x,y])) h2 s.heap.objs.size (.tup [x,y]):=⟨by show 2<=sizeLine;decide,[u,v],.cons ru (.cons rv .nil),⟨_,G.extBut _ _ zT b5,rfl,_,rfl⟩⟩;refine⟨.ref s.heap.objs.size,upd H s.heap.objs.size (.tup [x,y]),?_,rfl,⟨_,x,y,rfl,fresh,rfl,λzs hq=>by rw[ku.inj I hq q1];exact hx,λzs hq=>by rw[ku.inj I hq q2];exact hy⟩,?_,λb hb=>?_⟩
  ·exact AG (s:=s) (t':=s.toks) I hf kk (vT _) new
  ·exact⟨c1,G.extBut _ _ D.tz (bk _ _ D.tz D.to D.ta D.tb M),⟨_,_,G.extBut _ _ D.oz b2⟩,b3.upon λo e=>G.extBut _ _ D.az e,b4.upon λo e=>G.extBut _ _ D.bz e⟩
  ·have F4:b≠s.heap.objs.size:=by
    simp at hb;rcases hb with rfl|rfl|rfl|rfl|rfl
    ·exact lt hz
    ·exact lt M
    ·exact lt O
    ·exact l1
    ·exact l2
   rw[aE F4];exact(hf b hb).1
 done:=by
  intro X hP hw hK hc i aa s σ H E I hf st hg;subst hP hw hK;obtain⟨hz,M,⟨a,c,O⟩,U,t2⟩:=st;obtain⟨xs,ys,q1,q2,hl⟩:=hg;obtain⟨its,r1,p1,z1⟩:=q1.vals I;obtain⟨y9,r2,p2,z2⟩:=q2.vals I;have hT:s.TypeIs (.ref z) "zip":=⟨_,hz,rfl⟩;have n1:=r1.length;have n2:=r2.length;unfold pyNext;refine wX (wpAny_attempt (wpAny_callSpecial?_slot (name:=Str.ofString "__next__") hT slot_zip_next (wpAny_call_entry slot_zip_next hT entry_zip_next (sZ (I.ok.hd hc) D m1 m2 hz M O U t2 p1 p2 (hl.imp (λq=>by simp;omega) λq=>by simp;omega) λh' x hk hX=>?_) (args_zip_next_1 _))));obtain⟨o,eo,co⟩:=hX;refine wX (wpAny_isInstance (T:="StopIteration") (b:=true) ⟨o,eo,co⟩ isSubtype_stop (wY ⟨rfl,?_⟩));exact oq (t':=s.toks) I hf λb o hb e=>hk b o (λq=>hb (by simp[q])) (λq=>hb (by simp[q])) (λq=>hb (by simp[q])) (λq=>hb (by simp[q])) e
 self:=λ_ _ _ _ _ st h=>wpAny_pyIter_zip st.1 h
section
variable {X:Cx}{a b e:Expr}{pos:Pos}{p:Pos}
def AH:bootBuiltins "zip" = some (.type "zip"):=by decide +kernel
def Eg (K:Frag)(ta:TA):TI:=λσ H R=>ta σ H λvs G=>∃(k1 k2:Bool)(l1 l2:Addr)(xs ys:LV),vs=[.ref l1,.ref l2]/\ku k1 K G l1 xs/\ku k2 K G l2 ys/\R (Go K k1 k2 l1 l2) G
def BZ {es:QD}{kt:Nat}{pt:Pos}{ta:TA}(hg:Gl X "zip")(hm:X.mg "zip" = none)(ha:PA X [a,b] ta)(hs:starEach [a,b] X.env=[(false,eval a X.env),(false,eval b X.env)]:=by rfl)(O:starEach [b] X.env=[(false,eval b X.env)]:=by rfl):
  PI X (.Tuple es kt pt) (.Call (.Name "zip" p) [a,b] [] pos) (Eg X.K ta):=by
 intro aa s σ H R I h;refine Call_ (gg I hg hm AH (PyProof.Rows.callWith_type1 (bN (ha pos aa s σ H _ I h) λus s1 ⟨vs,H1,T,r1,q1⟩=>?_) (by rw[hs,O]) (by rw[O];rfl)));obtain⟨k1,k2,l1,l2,xs,ys,rfl,h1,h2,q⟩:=q1;obtain⟨u1,u2,rfl,ES,GW⟩:=r1.two;cases ES
 cases GW
 obtain⟨its,v1,p1,z1⟩:=h1.vals T;obtain⟨y9,v2,p2,z2⟩:=h2.vals T;have zV:=p1.lt;have G:=p2.lt;refine sY p1 p2 λh' c1 c2 c3 c4 c5 ck=>?_;have D:ZApart (s1.heap.objs.size+4) (s1.heap.objs.size+2) (s1.heap.objs.size+3) s1.heap.objs.size (s1.heap.objs.size+1):=by
  constructor<;>(intro z;exact absurd z (by first|exact vS (Nat.add_lt_add_left (by decide) _)|exact ne_of_gt (Nat.add_lt_add_left (by decide) _)|exact vS (Nat.lt_add_of_pos_right (by decide))|exact ne_of_gt (Nat.lt_add_of_pos_right (by decide))))
 have M:∀ {l:Addr}(n:Nat),l<s1.heap.objs.size->l≠s1.heap.objs.size+n:=λn hl=>vS (vQ hl (le_add_right _ n));refine wpAny_pyIter_zip c1 ⟨s1.heap.objs.size+4,[s1.heap.objs.size+4,s1.heap.objs.size+2,s1.heap.objs.size+3,s1.heap.objs.size,s1.heap.objs.size+1],_,_,H1,rfl,T.kept (t':=s1.toks) ck,
  xa D ⟨M 4 zV,M 3 zV,M 0 zV⟩ ⟨M 4 G,M 3 G,M 0 G,M 1 G⟩,⟨c1,c2,⟨_,_,c3⟩,c4,c5⟩,λb hb=>?_,q⟩
 have U:s1.heap.objs.size<=b:=by
  simp at hb;rcases hb with rfl|rfl|rfl|rfl|rfl
  ·exact le_add_right _ 4
  ·exact le_add_right _ 2
  ·exact le_add_right _ 3
  ·exact vT _
  ·exact le_add_right _ 1
 exact T.fpOk U (T.hok.fresh U)
noncomputable def dL (xs ys:LD):LD:=List.zipWith (λx y=>.tup [x,y]) xs ys
@[simp] def uB (G M:FE):FA:=λρ=>(G ρ).bind λx=>(M ρ).bind λy=>(fB x.1).bind λxs=>(fB y.1).map λys=>dL xs ys
def td {K:Frag}{B:Hp}{v:V}{d:D}{ds:LD}(h:Is K B v d)(e:fB d=some ds):∃k a vs,v=.ref a/\ku k K B a vs/\IsL K B vs ds:=by
 cases h with
 |tup G hl=>cases e;exact⟨false,_,_,rfl,G,hl⟩
 |lst G hl=>cases e;exact⟨true,_,_,rfl,G,hl⟩
 |_=>cases e
def Ca {H s}(I:Inv X aa σ H s)(h1:ku k1 X.K N l1 vs)(i1:IsL X.K N vs ds)(h2:ku k2 X.K N l2 ws)(i2:IsL X.K N ws es):kq X.K (Go X.K k1 k2 l1 l2) N (dL ds es):=by
 intro i H' G;have n1:=i1.length;have n2:=i2.length;refine⟨λd ed=>?_,λhl=>⟨vs,ws,h1.same G,h2.same G,?_⟩⟩
 ·unfold dL at ed;rw[List.getElem?_zipWith]at ed;cases M:ds[i]? with
  |none=>rw[M]at ed;simp at ed
  |some x=>
   cases O:es[i]? with
   |none=>rw[M,O]at ed;simp at ed
   |some y=>
    rw[M,O]at ed;simp at ed;subst ed;obtain⟨v,ev,iv⟩:=i1.get M;obtain⟨w,ew,iw⟩:=i2.get O;refine⟨⟨vs,ws,v,w,h1.same G,h2.same G,ev,ew⟩,λr H2 hy=>?_⟩;obtain⟨T,v',w',rfl,hT,rfl,f1,f2⟩:=hy;have e3:=f1 vs (h1.same G);have e4:=f2 ws (h2.same G);rw[ev]at e3;cases e3;rw[ew]at e4;cases e4;have U:=Ext.laid (o:=.tup [v,w]) G hT;exact⟨_,U,.tup (fz.of a8) (.cons (iv.mono U.bn) (.cons (iw.mono U.bn) .nil))⟩
 ·unfold dL at hl;rw[List.length_zipWith]at hl;omega
def xc {es:QD}{kt:Nat}{pt:Pos}{fa fb:FE}(hm:X.mg "zip" = none)(ha:JE X a fa)(hb:JE X b fb)(hg:Gl X "zip":=by rfl)(hs:starEach [a,b] X.env=[(false,eval a X.env),(false,eval b X.env)]:=by rfl)(M:starEach [b] X.env=[(false,eval b X.env)]:=by rfl):
  JI X (.Tuple es kt pt) (.Call (.Name "zip" p) [a,b] [] pos) (uB fa fb):=by
 intro aa s σ H R I q;refine BZ hg hm (ac ha (ac hb aj M) (by rw[hs,M])) hs M aa s σ H R I ?_;obtain⟨B,ρ,ds,sB,r,G,q⟩:=q;obtain⟨x1,ex,G⟩:=oX G;obtain⟨y1,ey,G⟩:=oX G;obtain⟨xs,O,G⟩:=oX G;obtain⟨ys,T,G⟩:=oY G;subst G;refine⟨B,ρ,[x1.1,y1.1],sB,r,by simp[ae,ak,ex,ey],λvs H1 N1 U i1=>?_⟩;cases i1 with
 |cons j1 j2=>
  cases j2 with
  |cons j2 j3=>
   cases j3
   obtain⟨k1,l1,us,rfl,s1,m1⟩:=td j1 O;obtain⟨k2,l2,ws,rfl,s2,m2⟩:=td j2 T;exact⟨k1,k2,l1,l2,us,ws,rfl,s1.same U.nh,s2.same U.nh,q _ H1 N1 U (Ca I s1 m1 s2 m2)⟩
end
noncomputable def unown1 (ρ:Env)(i:Nat):Env:=match ρ[i]? with
 |some (some (d,true))=>ρ.set i (some (d,false))
 |_=>ρ
def cb.unown1 {K:Frag}{B0 H0 N H:Hp}{σ:St}{ρ:Env}(s:cb K B0 H0 N H σ ρ)(i:Nat):cb K B0 H0 N H σ (unown1 ρ i):=by
 unfold DL.unown1;split
 ·rename_i d hd;obtain⟨a,ob,h1,h2,h3,h4⟩:=s.ow i d hd;have get:∀ {j:Nat}{e:D}{b:Bool},(ρ.set i (some (d,false)))[j]? = some (some (e,b))->(i=j/\e=d/\b=false)∨(i≠j/\ρ[j]? = some (some (e,b))):=λq=>by
   rcases bu q with⟨z,p⟩|⟨z,p⟩
   ·cases p;exact .inl ⟨z,rfl,rfl⟩
   ·exact .inr ⟨z,p⟩
  have o:∀c,own σ (ρ.set i (some (d,false))) c->own σ ρ c/\c≠a:=λc ⟨j,e,O,M⟩=>by
   rcases get O with⟨_,_,z⟩|⟨ne,q⟩
   ·cases z
   ·exact⟨⟨j,e,q,M⟩,λz=>by subst z;exact ne (s.inj i j _ _ _ hd q h1 M)⟩
  have c:aJ (cg N (own σ ρ)) (cg N (own σ (ρ.set i (some (d,false))))):=cQ λb u e q=>⟨e,λz=>q (o b z).1⟩;have T:¬own σ (ρ.set i (some (d,false))) a:=λz=>(o a z).2 rfl;refine⟨s.bh,s.tb,s.ext,by rw[length_set];exact s.len,λj e q=>?_,λj e q=>?_,λj k b e f q G U z2=>?_⟩
  ·rcases get q with⟨rfl,rfl,_⟩|⟨_,q⟩
   ·exact⟨_,h1,(h4.mono c).is (by rw[bO T];exact h2)⟩
   ·obtain⟨v,k1,k2⟩:=s.sh j e q;exact⟨v,k1,k2.mono c⟩
  ·rcases get q with⟨_,_,z⟩|⟨_,q⟩
   ·cases z
   ·obtain⟨a',o',k1,k2,k3,k4⟩:=s.ow j e q;exact⟨a',o',k1,k2,k3,k4.mono c⟩
  ·rcases get q with⟨_,_,z⟩|⟨_,q⟩
   ·cases z
   ·rcases get G with⟨_,_,z⟩|⟨_,G⟩
    ·cases z
    ·exact s.inj j k b e f q G U z2
 ·exact s
@[simp] noncomputable def Eh (is:LN)(g:FS):FS:=λρ=>g (is.foldl unown1 ρ)
theorem cb.unowns {K:Frag}{B0 H0 N H:Hp}{σ:St}:∀(is:LN){ρ:Env},cb K B0 H0 N H σ ρ->cb K B0 H0 N H σ (is.foldl DL.unown1 ρ)
 |[],_,s=>s
 |i::is,_,s=>cb.unowns is (s.unown1 i)
def Cb {K:Frag}{is:LN}{g:FS}{E:Ends}{σ:St}{H:Hp}(q:j7 K (Eh is g) E σ H):j7 K g E σ H:=by
 obtain⟨B0,H0,ρ,r,⟨N,s⟩,e,p⟩:=q;exact⟨B0,H0,_,r,⟨N,s.unowns is⟩,e,p⟩
def xf {X:Cx}{st:Stmt}{g:FS}(is:LN)(h:JS X st g):JS X st (Eh is g):=PS.to h λ_ _ _ q=>Cb q
@[simp] def AI:FS:=λρ=>some (.ct ρ)
@[simp] def r6:FS:=λ_=>none
section
variable {X:Cx}{pos:Pos}
def zG:JS X (.Continue pos) AI:=PS.to pd λE σ H q=>by
 obtain⟨B0,H0,ρ,r,s,e,p⟩:=q;cases e
 exact p σ H s
def pK {st:Stmt}:JS X st r6:=λaa s σ H E I q=>by
 obtain⟨B0,H0,ρ,r,_,e,_⟩:=q;cases e
end
inductive CRows (K:Frag)(P:Params):List DictEntry->List (Str×D)->Prop where
 |nil:CRows K P [] []
 |tup {x:Str}{t:Tok}{h:Int}{a:Addr}{its:Array Value}{n:Nat}{kK:Array (Option Value)}{ds:List D}{r:List DictEntry}{bx:List (Str×D)}(hh:h=PyData.keyHash P x)
   (l:K.lookup a=some ⟨.type "tuple",none,.seq its n,kK⟩) (f:(decide (its.size<=1000) && gn its.toList ds)=true) (tl:CRows K P r bx):CRows K P (⟨h,.str x t,.ref a⟩::r) ((x,.tup ds)::bx)
 |flat {x:Str}{t:Tok}{h:Int}{u:Value}{d:D}{r:List DictEntry}{bx:List (Str×D)}(hh:h=PyData.keyHash P x) (f:oo u d=true) (tl:CRows K P r bx):CRows K P (⟨h,.str x t,u⟩::r) ((x,d)::bx)
theorem CRows.lit {K:Frag}{P:Params}:∀ {es:List DictEntry}{bx:List (Str×D)},CRows K P es bx->PySem.W.KeysLit P es
 |_,_,.nil=>trivial
 |_,_,.tup hh _ _ tl=>⟨⟨_,_,rfl,hh⟩,tl.lit⟩
 |_,_,.flat hh _ tl=>⟨⟨_,_,rfl,hh⟩,tl.lit⟩
theorem CRows.find {K:Frag}{P:Params}(y:Str):∀ {es:List DictEntry}{bx:List (Str×D)},CRows K P es bx->match bx.lookup y with
  |none=>es.find? (λe=>Value.isStrOf y e.key)=none
  |some d=>∃e v,es.find? (λe=>Value.isStrOf y e.key)=some e/\aP v e.val/\∀B,Is K B v d
 |_,_,.nil=>rfl
 |_,_,.tup (x:=x) (t:=t) (a:=a) (ds:=ds) hh l f tl=>by
  by_cases e:y=x
  ·subst e;rw[lookup_cons_self];rw[vD]at f;obtain⟨vs,r,i⟩:=gp (K:=K) f.2;exact⟨_,.ref a,List.find?_cons_of_pos (by simp[Value.isStrOf]),rfl,λB=>.tup (.inr ⟨_,_,_,l,rfl,rfl,le_of_lt (lt_of_le_of_lt (of_decide_eq_true f.1) (by decide)),r⟩) (i B)⟩
  ·have G:=tl.find y;rw[lookup_cons,beq_eq_false_iff_ne.mpr e];have M:Value.isStrOf y (Value.str x t)=false:=by
    rw[Bool.eq_false_iff];intro z;obtain⟨t',q⟩:=Value.isStrOf_shape z;injection q with O;exact e O.symm
   simp only[find?_cons,M];exact G
 |_,_,.flat (x:=x) (t:=t) (u:=u) (d:=d) hh f tl=>by
  by_cases e:y=x
  ·subst e;rw[lookup_cons_self];obtain⟨v,U,_⟩:=hG (K:=K) (B:=λ_=>none) f;refine⟨_,v,List.find?_cons_of_pos (by simp[Value.isStrOf]),U,λB=>?_⟩;obtain⟨v',T,i'⟩:=hG (K:=K) (B:=B) f;have:v'=v:=by have z1:=U.abs;rw[T.abs]at z1;exact vK z1
   subst this;exact i'
  ·have G:=tl.find y;rw[lookup_cons,beq_eq_false_iff_ne.mpr e];have M:Value.isStrOf y (Value.str x t)=false:=by
    rw[Bool.eq_false_iff];intro z;obtain⟨t',q⟩:=Value.isStrOf_shape z;injection q with O;exact e O.symm
   simp only[find?_cons,M];exact G
def iU (K:Frag)(P:Params)(a:Addr)(bx:List (Str×D)):Prop:=∃es n,K.lookup a=some ⟨.type "dict",none,.dict es n,#[]⟩/\CRows K P es.toList bx/\(a == sysModules)=false
def const_dict {K:Frag}{P:Params}{y:Str}{a:Addr}{es:Array DictEntry}{n:Nat}{bx:List (Str×D)}(e:nsIn K mainGlobals y=some (some (.ref a)))(l:K.lookup a=some ⟨.type "dict",none,.dict es n,#[]⟩)(r:CRows K P es.toList bx)(s:(a == sysModules)=false):
  ∃a,nsIn K mainGlobals y=some (some (.ref a))/\iU K P a bx:=⟨a,e,es,n,l,r,s⟩
section
variable {X:Cx}{a b e:Expr}{pos:Pos}{x:Str}{p:Pos}
def iU.map {aa:AO}{σ:St}{H:Hp}{s:Shared}{d:Addr}{bx:List (Str×D)}(I:Inv X aa σ H s)(h:iU X.K X.w.params d bx):∃f:SV,s.heap.MapOf (strKind X.prog X.w) d f/\(d == sysModules)=false /\
  ∀y,match bx.lookup y with|none=>f y=none|some G=>∃u v,f y=some u/\aP v u/\∀B,Is X.K B v G:=by
 obtain⟨es,n,l,r,O⟩:=h;refine⟨_,PySem.W.mapOf_K I.kIn l r.lit,O,λy=>?_⟩;have:=r.find y;have M:findBy Value.isStrOf es y=(es.toList.find? λe=>Value.isStrOf y e.key).map (·.val):=by
  unfold findBy;obtain⟨es⟩:=es;rw[List.find?_toArray]
 cases hl:bx.lookup y with
 |none=>rw[hl]at this;dsimp only at this ⊢;rw[M,this];rfl
 |some G=>
  rw[hl]at this;obtain⟨T,v,U,e2,e3⟩:=this;exact⟨T.val,v,by rw[M,U];rfl,e2,e3⟩
@[simp] noncomputable def iV (bx:List (Str×D)):D->OB
 |.str y=>(bx.lookup y).map λd=>(d,false)
 |_=>none
@[simp] noncomputable def ll (bx:List (Str×D)):D->OB
 |.str y=>some (.bl (!(bx.lookup y).isSome),false)
 |_=>none
def ot (h:∃d,X.mg x=some (.ref d)/\iU X.K X.w.params d bx)(hb:JE X b f)(hg:Gl X x:=by rfl)(hd:(x == ("__debug__" : Str))=false:=by decide)(hs:iL b:=by intro _ _;rfl):JE X (.Subscript (.Name x p) b pos) (f1 (iV bx) f):=by
 obtain⟨d,hm,cd⟩:=h;have ix:wx X (λx y H Q=>∃z M,x=.ref d/\y=.str z/\bx.lookup z=some M/\∀v,(∀B,Is X.K B v M)->Q v H):=by
  intro O T aa s σ H x y v u Q I rx ry q hs;obtain⟨z,M,rfl,rfl,el,q⟩:=q;cases rx
  obtain⟨t,rfl⟩:=ry;obtain⟨f,hM,sm,hf⟩:=cd.map I;have:=hf z;rw[el]at this;obtain⟨u,v,U,e2,e3⟩:=this;exact tail_any hM.typeIs slot_dict_getitem.lookup (wpAny_getItem_of (strKind_is X.prog X.w z t) hM U ⟨v,H,I.tok _,e2,q v e3⟩) hs
 refine PE.to (sw ix (kE (v:=.ref d) hg hm rfl hd) hb hs) λσ H Q q=>?_;obtain⟨B,ρ,d',bb,sB,r,G,q⟩:=q;obtain⟨x1,ex,G⟩:=oX G;refine⟨B,ρ,x1.1,x1.2,sB,r,ex,λv H1 N1 xt i1 _=>?_⟩;obtain⟨xd,xb⟩:=x1;cases i1<;>try (simp[iV]at G;done)
 rename_i z _;simp only[iV]at G;obtain⟨M,U,e2⟩:=oY G;cases e2
 exact⟨z,_,rfl,rfl,U,λv hv=>(q.into xt).one xt.nh (hv _)⟩
@[simp] noncomputable def cX:LD->OB
 |[.lst ds]=>some (.lst ds,true)
 |[.tup ds]=>some (.lst ds,true)
 |_=>none
@[simp] noncomputable def cn:LD->OB
 |[.lst ds]=>some (.tup ds,false)
 |[.tup ds]=>some (.tup ds,false)
 |_=>none
def xg:bp X (.type "list") (uw X.K cX):=by
 refine bp.to nQ λxs H Q q=>?_;obtain⟨B,ds,d,bb,T,i,G,q⟩:=q;cases i with
 |nil=>simp[cX]at G
 |cons i1 i2=>
  cases i2 with
  |cons _ _=>cases i1<;>simp[cX]at G
  |nil=>
   cases i1<;>try (simp[cX]at G;done)
   ·rename_i U vs es h hl;simp only[cX]at G;cases G
    refine⟨_,_,rfl,.inr (aL T h),λl O=>?_⟩;have M:=Ext.laid (o:=.lst vs) T O;exact q _ _ _ M (.lst (dZ.of a8) (hl.mono M.bn)) λ_=>⟨_,_,_,rfl,rfl,O,a8,hl.mono M.bn⟩
   ·rename_i U vs es h hl;simp only[cX]at G;cases G
    refine⟨_,_,rfl,.inl (T.seq h),λl O=>?_⟩;have M:=Ext.laid (o:=.lst vs) T O;exact q _ _ _ M (.lst (dZ.of a8) (hl.mono M.bn)) λ_=>⟨_,_,_,rfl,rfl,O,a8,hl.mono M.bn⟩
def kG:bp X (.type "tuple") (uw X.K cn):=by
 refine bp.to ml λxs H Q q=>?_;obtain⟨B,ds,d,bb,M,i,G,q⟩:=q;cases i with
 |nil=>simp[cn]at G
 |cons i1 i2=>
  cases i2 with
  |cons _ _=>cases i1<;>simp[cn]at G
  |nil=>
   cases i1<;>try (simp[cn]at G;done)
   ·rename_i T vs es h hl;simp only[cn]at G;cases G
    exact⟨_,_,rfl,.inr ⟨aL M h,q.one M (.tup h hl)⟩⟩
   ·rename_i T vs es h hl;simp only[cn]at G;cases G
    refine⟨_,_,rfl,.inl ⟨M.seq h,λl U=>?_⟩⟩;have O:=Ext.laid (o:=.tup vs) M U;exact q _ _ _ O (.tup (fz.of a8) (hl.mono O.bn)) (by simp)
end
section
variable {X:Cx}{a b e:Expr}{pos:Pos}{x:Str}{p:Pos}
@[simp] def xh (i:Nat)(G M:FE):FS:=λρ=>match ρ[i]? with
 |some (some (.lst ds,true))=>(M ρ).bind λv=>(G ρ).bind λk=>match k.1 with
  |.int j=>(uo ds.length j).bind λn=>if aZ v.1=true then some (.nx (ρ.set i (some (.lst (ds.set n v.1),true))))else none
  |_=>none
 |_=>none
def Cc (hv:JE X e fv)(hk:JE X k fk)(hN:X.N[i]? = some y:=by rfl)(M:Dl X.env.scope y:=by first|exact Or.inl rfl|exact Or.inr (Or.inl rfl)|exact Or.inr (Or.inr rfl))(hd:(y == ("__debug__" : Str))=false:=by decide)
  (T:(y == ("__classdict__" : Str))=false:=by decide)
  (ha:∀v,assign (.Subscript (.Name y py) k pt) X.env v=(do
   let O ←holding [v] (eval (.Name y py) X.env)
   let iv ←holding [v,O] (eval k X.env)
   standAt pt
   holding [v,O,iv] (setItem O iv v)
   release [v,O,iv] []):=by intro _;rfl)
  (hs:swapsWithSole [.Subscript (.Name y py) k pt] e pos.line X.env=pure false:=by rfl) (hw:swappedStores [.Subscript (.Name y py) k pt] e X.env=pure none:=by rfl)
  (h1:(assignEach [.Subscript (.Name y py) k pt] X.env).map (·.2)=[assign (.Subscript (.Name y py) k pt) X.env]:=by rfl):JS X (.Assign [.Subscript (.Name y py) k pt] e pos) (xh i fk fv):=by
 refine PS.to (Bu hv (Bt (qP hN M hd T) hk wy ha) hs hw h1) λE σ H q=>?_;obtain⟨B0,H0,ρ,r,⟨N,s⟩,G,p⟩:=q;unfold xh at G;split at G
 ·rename_i ds U;obtain⟨v,ev,G⟩:=oX G;obtain⟨kk,ek,G⟩:=oX G;obtain⟨kd,kb⟩:=kk;cases kd with
  |int j=>
   dsimp only at G;obtain⟨n,en,G⟩:=oX G;split at G
   ·rename_i hn;cases G
    refine⟨N,ρ,v.1,v.2,s.ext.nh,s.rep,ev,λv1 H1 N1 x1 i1 _=>?_⟩;have s1:=s.grow x1;obtain⟨l,vs,F5,z,h1,h2,h3,h4⟩:=s1.owL i _ U;cases z
    refine⟨_,h1,N1,ρ,_,_,s1.ext.nh,s1.rep,ek,λkv H2 N2 x2 i2 _=>?_⟩;cases i2
    have s2:=s1.grow x2;obtain⟨l',GX,F5,z,k1,k2,k3,k4⟩:=s2.owL i _ U;cases z
    rw[h1]at k1;cases k1;exact⟨l,GX,j,n,rfl,rfl,s2.ext.nh _ _ k2,by rw[k4.length];exact en,p σ _ ⟨_,s2.write U h1 (IsL.set (s2.flat (i1.mono x2.bn) hn) n k4)⟩⟩
   ·cases G
  |_=>cases G
 ·cases G
@[simp] def xi (i:Nat)(f:FE):FS:=λρ=>match ρ[i]? with
 |some (some (.lst ds,true))=>(f ρ).bind λx=>match x.1 with
  |.lst es=>if x.2=true/\bA es=true/\ds.length+es.length<=sizeLine then some (.nx (ρ.set i (some (.lst (ds++es),true))))else none
  |_=>none
 |_=>none
def Cd (he:JE X e f)(hN:PE X (.Name y py) (mf i):=by exact pv)
  (M:attributeBase (.Name y py) "extend" X.env (eval (.Name y py) X.env)=eval (.Name y py) X.env:=by rfl)
  (T:((backTo fy (starEach [e] X.env)).all (λx=>!x.1) && (backToKw fy (keywordEach [] X.env)).all (λx=>x.1.isSome)
   && decide ([e].length+([]:List Keyword).length+(if([]:List Keyword).isEmpty then 0 else 1)<30))=true:=by rfl)
  (O:(kB.endLine == fy.line)=true:=by rfl) (hs:starEach [e] X.env=[(false,eval e X.env)]:=by rfl) (U:swapsWith (.Call (.Attribute (.Name y py) "extend" kB) [e] [] fy) none pos.line X.env=pure false:=by rfl):
  JS X (.Expr (.Call (.Attribute (.Name y py) "extend" kB) [e] [] fy) pos) (xi i f):=by
 refine PS.to (nH (mB plainAttrs_list PySem.F.slot_list_extend PySem.F.type_list_extend ur hN (cy he dP hs) M T O hs rfl) U) λE σ H q=>?_;obtain⟨B0,H0,ρ,r,⟨N,s⟩,G,p⟩:=q;unfold xi at G;split at G
 ·rename_i ds ei;obtain⟨v,ev,G⟩:=oX G;obtain⟨vd,vb⟩:=v;cases vd with
  |lst es=>
   dsimp only at G;split at G
   ·rename_i hc;cases G
    obtain⟨l,vs,F5,z,h1,h2,h3,h4⟩:=s.owL i _ ei;cases z
    refine⟨_,h1,.inl ⟨rfl,vs,dZ.of (s.ext.nh _ _ h2)⟩,N,ρ,_,_,s.ext.nh,s.rep,ev,λv1 H1 N1 x1 i1 f1=>?_⟩;obtain⟨l2,ws,JV,rfl,z,g1,g2,g3⟩:=f1 hc.1;cases z
    have s1:=s.grow x1;obtain⟨l',GX,F5,z,k1,k2,_,k4⟩:=s1.owL i _ ei;cases z
    rw[h1]at k1;cases k1;exact⟨l,l2,GX,ws,rfl,rfl,s1.ext.nh _ _ k2,x1.nh _ _ g2,by rw[k4.length,g3.length];exact hc.2.2,p σ _ ⟨_,s1.write ei h1 (k4.append (s1.flats g3 hc.2.1))⟩⟩
   ·cases G
  |_=>cases G
 ·cases G
@[simp] noncomputable def mn:LD->OB
 |[.int i]=>some (.int i,false)
 |[.bl b]=>some (.int (if b then 1 else 0),false)
 |_=>none
def AJ:bp X (.type "int") (uw X.K mn):=by
 refine bp.to uk λxs H Q q=>?_;obtain⟨B,ds,d,O,M,i,G,q⟩:=q;cases i with
 |nil=>simp[mn]at G
 |cons i1 i2=>
  cases i2 with
  |cons _ _=>cases i1<;>simp[mn]at G
  |nil=>
   cases i1<;>try (simp[mn]at G;done)
   ·simp only[mn]at G;cases G
    exact .inr ⟨_,rfl,q.one M (.int _)⟩
   ·simp only[mn]at G;cases G
    exact .inl ⟨_,rfl,q.one M (.int _)⟩
end
open AutoSeq1 (wpAny_loadPart')
set_option maxRecDepth 100000
end DL
namespace DL
open PySem PySem.Spec PyProof.Rows
def uC (t:SetTable)(es:Array (Int×Value))(n:Nat):(relayAll t es n).2.1.led=t.led:=by
 unfold relayAll;split
 ·rename_i t' G h;unfold SetTable.relaid SetTable.laid at h;obtain⟨ow,_,h⟩:=oX h;cases h
  dsimp only;split<;>rfl
 ·rfl
def pL (t:SetTable)(es:Array (Int×Value))(n:Nat)(M:t.plain=false):(relayAll t es n).2.1.plain=false:=by
 unfold relayAll;split
 ·rename_i t' G h;unfold SetTable.relaid SetTable.laid at h;obtain⟨ow,_,h⟩:=oX h;cases h
  dsimp only;split
  ·exact M
  ·rfl
 ·rfl
def zH (t:SetTable)(es:Array (Int×Value))(h:Int)(x:Value):(layNew t es h x).2.1.led=t.led:=by
 unfold layNew;split
 ·dsimp only[SetTable.put,SetTable.orStandIn];repeat' (first|rfl|split)
 ·rfl
structure TabT (w:World)(es:Array (Int×Value))(t:SetTable):Prop where
 fits:t.fits es.size=true
 led:t.led = !w.params.followText "set-order"
 plain:es.size≠0->t.plain=false
def fu (prog:Program)(w:World)(h:Heap)(a:Addr)(G:LS):Prop :=
 ∃o es M t,h.get? a=some o/\o.ExactSet/\o.data=.set es M t/\ElemsOf (PySem.strKind prog w) es.toList/\(es.toList.map (λe=>strOf e.2)).Perm G/\G.Nodup/\G.length<scanBound/\TabT w es t
def gq (G:LS)(x:Str):LS:=if x∈G then G else G++[x]
def xj (G:LS)(x:Str):(gq G x).length<=G.length+1:=by unfold gq;split<;>simp
def pM (h:Value.isStrOf k v=true):strOf v=k:=by obtain⟨t,rfl⟩:=Value.isStrOf_shape h;rfl
section
variable {prog:Program}{w:World}{A:Around}{E:QV}{s:Shared}
def mJ {es:Array (Int×Value)}{O:LS}(M:ElemsOf (PySem.strKind prog w) es.toList)(T:(es.toList.map (λe=>strOf e.2)).Perm O)(k:Str):k∈O ↔ ∃e∈es.toList,(PySem.strKind prog w).is k e.2=true:=by
 rw[←T.mem_iff,mem_map];constructor
 ·rintro⟨e,he,rfl⟩;obtain⟨⟨k',hk,_⟩,_⟩:=M e he;have G:Value.isStrOf k' e.2=true:=hk;refine⟨e,he,?_⟩;show Value.isStrOf (strOf e.2) e.2=true;rw[pM G];exact G
 ·rintro⟨e,he,hk⟩;exact⟨e,he,pM hk⟩
def mK {h:Heap}{a:Addr}{o:Obj}{es:Array (Int×Value)}{M:Nat}{t:SetTable}(O:h.get? a=some o)(hd:o.data=.set es M t)(G:Array (Int×Value))(t':SetTable):
  (h.update a (Obj.putSet G t')).get? a=some { o with data:=.set G (M+1) t' }:=by
 have:=Heap.get?_update_self (Obj.putSet G t') O (by rw[putSet_of G t' hd];rfl);rw[putSet_of G t' hd]at this;exact this
def pN {g:Bool->Sem Unit}(hg:∀(b:Bool)(s₁:Shared)(Q':Unit->Shared->Prop),Q' () s₁->wpAny (model prog w) A (g b) Q' E s₁)
  {a:Addr}{o:Obj}{es:Array (Int×Value)}{ep:Nat}{t:SetTable}(ho:s.heap.get? a=some o) (Ax:o.ExactSet) (hd:o.data=.set es ep t)
  {G:Array (Int×Value)}{M:SetTable}{ts:LS}(yC:ElemsOf (PySem.strKind prog w) G.toList) (Di:(G.toList.map (λe=>strOf e.2)).Perm ts) (nd:ts.Nodup)
  (T:ts.length<scanBound) (JX:M.fits G.size=true) (GK:M.led = !w.params.followText "set-order") (y7:M.plain=false) {O:Bool}{R:Option Bool->Shared->Prop}
  (h:∀h',Heap.SameBut a s.heap h'->fu prog w h' a ts->R (some true) { s with heap:=h' }):
  wpAny (model prog w) A (do
    storeSet a G M
    if(!O && M.tooFull)=true then do
      g (relayAll M G (SetTable.grown G.size)).2.2
      storeSet a (relayAll M G (SetTable.grown G.size)).1 (relayAll M G (SetTable.grown G.size)).2.1
      pure (some true)
     else pure (some true)) R E s:=by
 have Iq:G.size=ts.length:=by rw[←Di.length_eq,vI,vG]
 refine wX (wpAny_storeSet_of ho hd ?_ (fits_of_scanBound (by rw[Iq];exact T)));have Dj:=mK ho hd G M;have ET:=vW s.heap a (Obj.putSet G M);split
 ·have hp:=relayAll_perm M G (SetTable.grown G.size);have GY:=relayAll_fits M G (SetTable.grown G.size);have CL:=uC M G (SetTable.grown G.size);have GZ:=pL M G (SetTable.grown G.size) y7;generalize hRl:relayAll M G (SetTable.grown G.size)=Rl at hp GY CL GZ ⊢;obtain⟨U,t3,Ir⟩:=Rl;dsimp only at hp GY CL GZ ⊢;have Ha:ElemsOf (PySem.strKind prog w) U.toList:=yC.perm hp;have hsz:U.size=G.size:=by rw[←vG,hp.length_eq,vG]
  refine wX (hg _ _ _ ?_);refine wX (wpAny_storeSet_of Dj rfl ?_ (fits_of_scanBound (by rw[hsz,Iq];exact T)));have JY:=mK Dj rfl U t3;exact wY (h _ (ET.trans (vW _ a _)) ⟨_,U,_,t3,JY,Ax,rfl,Ha,(hp.map _).trans Di,nd,T,GY,CL.trans GK,λ_=>GZ⟩)
 ·exact wY (h _ ET ⟨_,G,_,M,Dj,Ax,rfl,yC,Di,nd,T,JX,GK,λ_=>y7⟩)
def rA {a:Addr}{U:LS}{k:Str}{tk:Tok}{Q:Bool->Shared->Prop}(hS:fu prog w s.heap a U)(EU:U.length+1<scanBound)
  (h:∀b h',Heap.SameBut a s.heap h'->fu prog w h' a (gq U k)->Q b { s with heap:=h' }):
  wpAny (model prog w) A (setAddHashed a (.str k tk) ((PySem.strKind prog w).hash k)) Q E s:=by
 have hS0:=hS;obtain⟨o,es,ep,t,ho,Ax,hd,AZ,G,nd,hb,hf,Ay,y7⟩:=hS;have EV:(PySem.strKind prog w).is k (.str k tk)=true:=strKind_is prog w k tk;have sz:es.size=U.length:=by rw[←G.length_eq,vI,vG]
 unfold setAddHashed setAddHashedIn;refine wpAny_holding (wX (wpAny_setState_of ho hd hf ?_));dsimp only;rw[byScan_of (x:=.str k tk) rfl (by rw[sz];exact hb) AZ];simp only[↓reduceIte];unfold setAddByScan;refine wX ?_;refine wX (wpAny_rule ?_);refine wX (wpAny_setScan_of EV ho hd hf AZ ?_);cases hr:List.findIdx? (λe=>(PySem.strKind prog w).is k e.2) es.toList with
 |some j=>
  dsimp only;obtain⟨hj,JZ,_⟩:=List.findIdx?_eq_some_iff_getElem.mp hr;have hm:k∈U:=(mJ AZ G k).mpr ⟨es.toList[j],getElem_mem hj,JZ⟩;refine wY (wY ?_);have e:gq U k=U:=by unfold gq;rw[if_pos hm]
  exact h false s.heap (Heap.SameBut.refl a s.heap) (by rw[e];exact hS0)
 |none=>
  dsimp only;have hm:k∉U:=λz=>by
   obtain⟨e,he,hp⟩:=(mJ AZ G k).mp z;have:=List.findIdx?_eq_none_iff.mp hr e he;rw[hp]at this;exact Bool.noConfusion this
  have ea:gq U k=U++[k]:=by unfold gq;rw[if_neg hm]
  have Ka:∀(b:Bool){T:Shared}{Q':Unit->Shared->Prop},Q' () T->wpAny (model prog w) A (match b with|true=>rule "set.scan.the-table-gave-way" | false=>pure ()) Q' E T :=
   λb T Q' hq=>by cases b<;>first|exact wY hq|exact wpAny_rule hq
  have M:=layNew_perm t es ((PySem.strKind prog w).hash k) (.str k tk);have O:=layNew_fits t es ((PySem.strKind prog w).hash k) (.str k tk);have CM:=zH t es ((PySem.strKind prog w).hash k) (.str k tk);generalize hL:layNew t es ((PySem.strKind prog w).hash k) (.str k tk)=L at M O CM ⊢;obtain⟨Iu,t1,EW,Hb⟩:=L;dsimp only at M O CM ⊢;rw[Array.toList_push]at M;have yC:ElemsOf (PySem.strKind prog w) Iu.toList:=(AZ.push EV rfl).perm M;have Di:(Iu.toList.map (λe=>strOf e.2)).Perm (U++[k]):=(M.map _).trans (by rw[map_append];exact G.append_right _);have Iv:(U++[k]).Nodup:=by
   rw[nodup_append];refine⟨nd,by simp,λx hx y hy=>?_⟩;rw[mem_singleton]at hy;subst hy;exact λz=>hm (z ▸ hx)
  have F6:(U++[k]).length<scanBound:=by rw[vA];exact EU
  refine wX (Ka _ ?_);have EX:∀h',Heap.SameBut a s.heap h'->fu prog w h' a (U++[k])->Q true { s with heap:=h' }:=λh' hsb yD=>h true h' hsb (by rw[ea];exact yD);split
  ·refine wX ?_;rw[hashByValue_scannable 8 (x:=.str k tk) rfl];refine wY ?_;refine pN ?_ ho Ax hd yC Di Iv F6 ?_ ?_ ?_ ?_
   ·intro b T Q' hq;cases b<;>first|exact wY hq|exact wpAny_rule hq
   ·exact SetTable.fits_plain_off O
   ·exact CM.trans Ay
   ·rfl
   ·intro h' hsb yD;dsimp only;exact wY (EX h' hsb yD)
  ·rename_i hnp;refine wX (wY ?_);simp only[↓reduceIte];refine pN ?_ ho Ax hd yC Di Iv F6 O (CM.trans Ay) (by simpa using hnp) ?_
   ·intro b T Q' hq;cases b<;>first|exact wY hq|exact wpAny_rule hq
   ·intro h' hsb yD;dsimp only;exact wY (EX h' hsb yD)
end
def fw (ss:LS):LS:=ss.foldl gq []
def rB (h:ts.Nodup)(x:Str):(gq ts x).Nodup:=by
 unfold gq;split
 ·exact h
 ·rename_i hm;rw[nodup_append];refine⟨h,by simp,λy hy z hz=>?_⟩;rw[mem_singleton]at hz;subst hz;exact λe=>hm (e ▸ hy)
def xk:y∈gq ts x↔y∈ts∨y=x:=by
 unfold gq;split
 ·rename_i hm;exact⟨.inl,λz=>z.elim id λe=>e ▸ hm⟩
 ·simp
def ou (ss:LS):∀G:LS,(ss.foldl gq G).length<=G.length+ss.length:=by
 induction ss with
 |nil=>intro G;simp
 |cons x r M=>intro G;rw[List.foldl_cons];have:=M (gq G x);have:=xj G x;simp only[vE];omega
def lm (ss:LS):(fw ss).length<=ss.length:=by have:=ou ss [];simpa [fw]using this
def uD (ss:LS)(x:Str):fw (ss++[x])=gq (fw ss) x:=by unfold fw;rw[List.foldl_append];rfl
theorem StrsAre.at:∀ {vs:LU}{ss:LS},StrsAre vs ss->∀(i:Nat)(v:Value),vs[i]? = some v->∃x t,v=.str x t/\ss[i]? = some x
 |_,_,.nil,i,v,h=>by simp at h
 |_,_,.cons x t G,0,v,h=>by simp at h;exact⟨x,t,h.symm,rfl⟩
 |_,_,.cons x t G,i+1,v,h=>by
  simp only[List.getElem?_cons_succ]at h;exact StrsAre.at G i v h
def fu.at (x:fu prog w h a ts)(k:∀o,h.get? a=some o->h'.get? a=some o):fu prog w h' a ts:=by
 obtain⟨o,es,G,t,M,r⟩:=x;exact⟨o,es,G,t,k o M,r⟩
section
variable {prog:Program}{w:World}{A:Around}{R:Result->Shared->Prop}{I:Addr}{fp wr:List Addr}{G:Array GenState->Array GenState->Prop}{n:Nat}{P:Nat->Value->Prop}{St:Nat->Shared->Prop}
def oy (W:WalksS prog w A.in1 I fp wr G n P St)(S:Addr)(U:S∉fp)(ss:LS)(hn:ss.length=n)
  (CN:∀i v,P i v->∃x t,v=.str x t/\ss[i]? = some x) (hb:n+1<scanBound):
  ∀(k i:Nat)(s:Shared),n - i=k->i<=n->St i s->fu prog w s.heap S (fw (ss.take i)) ->
   (∀M,Moved (S::wr) G s M->fu prog w M.heap S (fw ss)->R (.ok (.ret .none)) M) ->
   codeAny (model prog w) A (.builtin "set.update.loop" ⟨[.ref S,.ref I],[]⟩) R s:=by
 have Iw:S∉wr:=λh=>U (W.sub _ h);have O:∀b∈wr,b∈S::wr:=λb hb=>mZ _ hb;intro k;induction k with
 |zero=>
  intro i s hk hi T hS hR;have qN:i=n:=by omega
  subst qN;refine codeAny_builtin PyProof.Rows.F.entry_set_update_loop ?_;rw[Around.under_plainId PyProof.Rows.F.plain_set_update_loop _];show wpAny _ A.in1 (pyNext (.ref I)>>=_) _ _ s;refine wX (W.done s _ _ T λM hm=>?_);show wpAny _ A.in1 (ret Value.none) _ _ M;refine wY (hR M (hm.mono O) ?_);rw[List.take_of_length_le (by omega)]at hS;exact hS.at λo e=>hm.heap S _ Iw e
 |succ k ih=>
  intro i s hk hi T hS hR;have wa:i<n:=by omega
  refine codeAny_builtin PyProof.Rows.F.entry_set_update_loop ?_;rw[Around.under_plainId PyProof.Rows.F.plain_set_update_loop _];show wpAny _ A.in1 (pyNext (.ref I)>>=_) _ _ s;refine wX (W.item i s _ _ wa T λv M hP hst' hm=>?_);obtain⟨x,t,rfl,hx⟩:=CN i v hP;have yD:fu prog w M.heap S (fw (ss.take i)):=hS.at λo e=>hm.heap S _ Iw e;show wpAny _ A.in1 (holding [Value.str x t] (setAdd S (.str x t))>>=_) _ _ M;refine wX (wpAny_holding ?_);unfold setAdd;refine wpAny_holding ?_;refine wX ((PySem.strKind prog w).pyHash (k:=x) (strKind_is prog w x t) ?_);have hl:(fw (ss.take i)).length+1<scanBound:=by have:=lm (ss.take i);rw[length_take]at this;omega
  refine rA (s:={ M with toks:=M.toks+1 }) yD hl λb h' hsb Ba=>?_;have F7:fu prog w h' S (fw (ss.take (i+1))):=by
   rw[List.take_add_one,hx,Option.toList_some,uD];exact Ba
  refine wY ⟨plainId_quiet PyProof.Rows.F.plain_set_update_loop _,ih (i+1) _ (by omega) wa (W.frame _ M _ _ hst' (le_succ _) λb hb o e=>?_) F7 λKb hm'' hS''=>?_⟩
  ·rw[hsb.2 b (λh:b=S=>U (by rw[←h];exact hb))];exact e
  ·refine hR Kb (Moved.trans W.gtrans ((hm.mono O).then_heap (le_succ _) λb o hb e=>?_) hm'') hS'';rw[hsb.2 b (λh:b=S=>hb (by rw[h];exact mX))];exact e
end
section
variable {prog:Program}{w:World}{A:Around}{E:QV}{s:Shared}
noncomputable abbrev cH (w:World):Obj:={ cls:=.type "set",dict:=none,data:=.set #[] 0 (.fresh 0 0 (!w.params.followText "set-order")) }
def pO (a:Value) 
  (h:Q₁ (.ref s.heap.objs.size) { s with heap:=s.heap.push (cH w) }):
  codeAny (model prog w) A (.call (.builtin "set.__new__") ⟨[.type "set",a],[]⟩) (wants Q₁ E) s:=by
 refine codeAny_of_tree ?_;show wpAny _ A.in1 (do checkBuiltinCall "set.__new__" ⟨[.type "set",a],[]⟩;again (.builtin "set.__new__" ⟨[.type "set",a],[]⟩)) _ _ s;refine wX (wpAny_of_eq (PySem.F.newCall_set_1 a) (wY ⟨plainId_quiet plain_set_new _,codeAny_builtin PySem.F.entry_set_new ?_⟩));rw[Around.under_plainId plain_set_new _];unfold Builtin.«set.__new__» Builtin.Frozenset.newClass;have G:=sub_set_self;obtain⟨M,g,d,O,os⟩:=s;dsimp only;wp_walk;refine wpAny_askSetting (wY ?_);dsimp only;simp only[newObj];refine wX (wpAny_alloc (wY ?_));exact wY h
set_option maxHeartbeats 3200000 in
def ln 
  (hh:A.handled=none) (hl:s.heap.IsList l aq) (hi:StrsAre aq.toList ss) (hb:aq.size+1<scanBound)
  (h:∀(h':Heap)(tk:Nat),fu prog w h' s.heap.objs.size (fw ss) ->
   (∀b o,b<s.heap.objs.size->s.heap.get? b=some o->h'.get? b=some o)->Q (.ref s.heap.objs.size) { s with heap:=h',toks:=tk }):
  wpAny (model prog w) A (call (.type "set") [.ref l]) Q E s:=by
 obtain⟨c,tl,Kc⟩:=called_set.mro;have Ix:=called_set.made;have Kd:=called_set.sub;refine wpAny_call (codeAny_of_tree ?_);show wpAny _ _ (callAny (.type "set") _) _ _ _;refine wY ⟨Code.quiet_builtin _ (by decide +kernel),codeAny_builtin PySem.F.entry_type_call ?_⟩;rw[Around.under_plain (weight_type_call_type "set" [.ref l] []) rfl];have h1:=called_set.notType;have h2:=called_set.canCreate;have Lc:=PySem.F.typeCall_set_1 (.ref l);have lZ:ss.length=aq.size:=by have:=hi.strs;rw[←this,vI,vG]
 repeat (any_goals (first|assumption|wp_step))
 refine codeAny_mono (pO (.ref l) (E:=E) (Q₁:=λobj O=>obj=.ref s.heap.objs.size/\O={ s with heap:=s.heap.push (cH w) }) ⟨rfl,rfl⟩) λr O hr=>?_;cases r with
 |error e=>exact hr
 |ok fl=>
  cases fl with
  |ret obj=>
   obtain⟨rfl,rfl⟩:=hr;have hS:(s.heap.push (cH w)).get? s.heap.objs.size=some (cH w):=vY _ rfl;have hT:Shared.TypeIs { s with heap:=s.heap.push (cH w) } (.ref s.heap.objs.size) "set":=⟨_,hS,rfl⟩;have Ld:=called_set.init.lookup;have Le:=called_set.init.bind (.ref s.heap.objs.size);repeat (any_goals (first|assumption|wp_step))
   refine codeAny_mono (codeAny_call_builtin (R:=wants (λr T=>r=.none/\∃h' tk,T={ s with heap:=h',toks:=tk } /\
     fu prog w h' s.heap.objs.size (fw ss) /\
     (∀b o,b<s.heap.objs.size->s.heap.get? b=some o->h'.get? b=some o)) E) called_set.init.plain PySem.F.entry_set_init (check_set_init_1 hT ?_)) λr₂ T G=>?_
   ·obtain⟨ol,F8,Dk,nl,F9⟩:=hl;obtain⟨Ke,U,Iy,M⟩:=ol;simp only at Dk F9;subst Dk;subst F9;have He:(s.heap.push (cH w)).get? l=some { cls:=.type "list",dict:=U,data:=.seq aq nl,slots:=M }:=vZ _ F8;have Kf:=PySem.F.sub_list_set;have Kg:=PySem.F.sub_list_frozenset;have F4:(Value.type "list" == Value.type "dict")=false:=by decide
    have CM:(s.heap.push (cH w)).IsList l aq:=⟨_,He,rfl,nl,rfl⟩;unfold Builtin.«set.__init__» noKeywords Builtin.Frozenset.updateFrom;generalize hPI:pyIter=PI;wp_walk;subst hPI;refine wpAny_pyIter_list CM ?_;refine wX (wpAny_runValue ?_);have Iz:l<s.heap.objs.size:=vX F8;have Kh:A.in1.in1.in1.handled=none:=by simp[hh]
    have Hf:l≠(s.heap.push (cH w)).objs.size:=by
     rw[Heap.size_push];exact vS (lt_succ_of_lt Iz)
    have FC:s.heap.objs.size∉[(s.heap.push (cH w)).objs.size,l]:=by
     rw[Heap.size_push];simp only[mem_cons,mem_singleton,not_mem_nil,or_false,not_or];exact⟨vS (lt_succ_self _),ne_of_gt Iz⟩
    have CN:∀(i:Nat)(v:Value),aq[i]? = some v->∃x t,v=.str x t/\ss[i]? = some x:=λi v hv=>
     StrsAre.at hi i v (by rw[getElem?_toList];exact hv)
    refine oy ((Walks.list Kh _ l Hf aq).toS) s.heap.objs.size
     FC ss lZ CN hb (aq.size - 0) 0 _ (by omega) (uO _)
     ⟨⟨_,vY _ rfl,rfl,rfl⟩,(CM.push _)⟩ ?hS0 ?hR
    case hS0=>
     have Hg:((s.heap.push (cH w)).push { cls:=.type "list_iterator",data:=.fields #[.ref l,.int 0 0] }).get? s.heap.objs.size
       = some (cH w):=vZ _ hS
     exact⟨_,#[],0,_,Hg,⟨rfl,rfl,rfl⟩,rfl,λe he=>by simp at he,List.Perm.refl _,nodup_nil,(by show(0:Nat)<scanBound;decide),rfl,rfl,λz=>absurd rfl z⟩
    case hR=>
     intro s' hm yD
     obtain⟨h',g',d',Ki,Kj⟩:=s'
     have eg:g'=s.gens:=hm.gens
     have ed:d'=s.drawn:=hm.drawn
     have eo:Kj=s.os:=hm.os
     subst eg;subst ed;subst eo
     show wpAny _ _ _ _ _ _
     refine wY ?_
     show wpAny _ _ (ret Value.none) _ _ _
     refine wY ⟨rfl,h',Ki,rfl,yD,λb o hb e=>?_⟩
     have F6:b≠s.heap.objs.size:=vS hb
     have Kk:b≠(s.heap.push (cH w)).objs.size:=by
      rw[Heap.size_push];exact vS (lt_succ_of_lt hb)
     exact hm.heap b o (by simp only[mem_cons,mem_singleton,not_mem_nil,or_false,not_or];exact⟨F6,Kk⟩) (vZ _ (vZ _ e))
   ·cases r₂ with
    |error e=>exact G
    |ok fl₂=>
     cases fl₂ with
     |ret r=>
      obtain⟨rfl,h',tk,rfl,yD,FD⟩:=G;repeat (any_goals (first|assumption|wp_step))
      exact h _ _ yD FD
     |_=>exact G.elim
  |_=>exact hr.elim
end
open Sem (wp)
section
variable {M:Model}{A:Around}{E:QV}{s:Shared}
def zI (hn:n≠0)(h:∀k d,k<n->Q k { s with drawn:=d }):wpAny M A (choose src n) Q E s:=by
 intro G p O;unfold choose;rw[Sem.wp_choose];refine⟨hn,?_⟩;have:=h _ (s.drawn.bump src) (Nat.mod_lt (M.w.draws src (s.drawn.get src)) (Nat.pos_of_ne_zero hn));simpa using this
end
def iW {α:Type}:∀(l:List α)(i:Nat),i<l.length->(l.eraseIdx i).length=l.length - 1:=λl i h=>by rw[List.length_eraseIdx,if_pos h]
theorem i6 {α:Type}:∀(l:List α)(i:Nat)(x:α),l[i]? = some x->(x::l.eraseIdx i).Perm l
 |[],i,x,h=>by simp at h
 |a::l,0,x,h=>by simp at h;subst h;exact List.Perm.refl _
 |a::l,i+1,x,h=>by
  rw[List.eraseIdx_cons_succ];simp only[List.getElem?_cons_succ]at h;exact(List.Perm.swap a x _).trans ((i6 l i x h).cons a)
theorem tf {α:Type}:∀(n:Nat)(xs:List α)(s:Shared)(Q:List α->Shared->Prop),xs.length=n->(∀ys d,ys.Perm xs->Q ys { s with drawn:=d })->wpAny M A (drawOrder n xs) Q E s
 |0,xs,s,Q,hl,h=>by
  have:xs=[]:=List.eq_nil_of_length_eq_zero hl;subst this;exact wY (h [] s.drawn (List.Perm.refl _))
 |n+1,[],s,Q,hl,h=>by simp at hl
 |n+1,x::r,s,Q,hl,h=>by
  show wpAny M A (choose .order (x::r).length>>=λi=>match (x::r)[i]? with
   |some G=>(do return G::(←drawOrder n ((x::r).eraseIdx i)))
   |none=>unsupported "internal:drawOrder") Q E s
  refine wX (zI (by simp) λk d hk=>?_);obtain⟨y,hy⟩:∃y,(x::r)[k]? = some y:=⟨_,vU hk⟩;rw[hy];refine wX (tf n _ _ _ (by rw[iW _ _ hk,hl];rfl) λys d' O=>wY (h _ _ ((O.cons y).trans (i6 _ _ _ hy))))
theorem tj {α:Type}(next:Nat->Nat):∀(fuel k:Nat)(left:List α)(out:Array α),left.length=fuel->(pickOrder.go next fuel k left out).toList.Perm (out.toList++left)
 |0,k,left,out,hl=>by
  have:left=[]:=List.eq_nil_of_length_eq_zero hl;subst this;unfold pickOrder.go;simp
 |fuel+1,k,left,out,hl=>by
  unfold pickOrder.go;have hk:next k % left.length<left.length:=Nat.mod_lt _ (by omega);obtain⟨y,hy⟩:∃y,left[next k % left.length]? = some y:=⟨_,vU hk⟩;rw[hy];dsimp only;refine(tj next fuel (k+1) _ _ (by rw[iW _ _ hk];omega)).trans ?_;rw[Array.toList_push,append_assoc];exact(i6 _ _ _ hy).append_left _
def uE {α:Type}(next:Nat->Nat)(xs:Array α):(pickOrder next xs).toList.Perm xs.toList:=by
 have:=tj next xs.size 0 xs.toList #[] (by simp);simpa [pickOrder]using this
def aW:Slot "set_iterator" "__next__" "set_iterator.__next__" :=
 .of (owner:="set_iterator") (n:="__next__") (by rw[typeLookup_type,builtinLookup_eq_fast];kernel_rfl) (by decide +kernel) (by decide +kernel) (by decide +kernel)
  (by first|exact .inl (by decide +kernel)|exact .inr (by decide +kernel)) (by rw[isSubtype_type];kernel_rfl)
def cY:entryFor table "set_iterator.__next__" = some Builtin.«set_iterator.__next__»:=entryFor_of_tree (by kernel_rfl)
def dC (a:Value):argsOk "set_iterator.__next__" ⟨[a],[]⟩:=by unfold argsOk;kernel_rfl
def ij:Slot "set_iterator" "__iter__" "set_iterator.__iter__" :=
 .of (owner:="set_iterator") (n:="__iter__") (by rw[typeLookup_type,builtinLookup_eq_fast];kernel_rfl) (by decide +kernel) (by decide +kernel) (by decide +kernel)
  (by first|exact .inl (by decide +kernel)|exact .inr (by decide +kernel)) (by rw[isSubtype_type];kernel_rfl)
def lp:entryFor table "set_iterator.__iter__" = some Builtin.«dict_keyiterator.__iter__» :=
 entryFor_alias (id':="dict_keyiterator.__iter__") (by kernel_rfl) rfl (by decide +kernel) (by kernel_rfl)
def mo (a:Value):argsOk "set_iterator.__iter__" ⟨[a],[]⟩:=by unfold argsOk;kernel_rfl
def kx:entryFor table "set.__iter__" = some Builtin.«frozenset.__iter__» :=
 entryFor_alias (id':="frozenset.__iter__") (by kernel_rfl) rfl (by decide +kernel) (by kernel_rfl)
noncomputable abbrev i7 (G:Value)(i:Nat)(S:Addr)(n M:Nat):Obj:={ cls:=.type "set_iterator",data:=.fields #[G,.int i 0,.ref S,.int n 0,.int M 0] }
section
variable {prog:Program}{w:World}{A:Around}{E:QV}{s:Shared}{it S:Addr}{i ep:Nat}{o:Obj}{es:Array (Int×Value)}{t:SetTable}
def cr (G:s.heap.get? it=some (i7 fst i S n ep)):s.TypeIs (.ref it) "set_iterator":=⟨_,G,rfl⟩
def o0 {k k':Nat}{x:Value}{Q:Option Value->Shared->Prop}(G:s.heap.get? it=some (i7 (.int k 0) i S es.size ep))
  (O:s.heap.get? S=some o) (hd:o.data=.set es ep t) (hf:t.fits es.size=true)
  (T:∀(U:Around)(E':QV)(M:Option (Value×Nat)->Shared->Prop),M (some (x,k')) s->wpAny (model prog w) U (setNext S k i ep) M E' s)
  (hQ:∀h',h'.get? it=some (i7 (.int k' 0) (i+1) S es.size ep)->Heap.SameBut it s.heap h'->Q (some x) { s with heap:=h' }):
  wpAny (model prog w) A (pyNext (.ref it)) Q E s:=by
 unfold pyNext;refine wX (wpAny_attempt (wpAny_callSpecial?_slot (name:=Str.ofString "__next__") (cr G) aW
  (wpAny_call_entry aW (cr G) cY ?_ (dC _))))
 show wpAny _ _ (fieldsOf (.ref it)>>=_) _ _ s;refine wX (wpAny_fieldsOf G rfl ?_);show wpAny _ _ (setEntries S>>=_) _ _ s;refine wX (wpAny_setEntries_of O hd hf ?_);rw[if_neg (by simp)];show wpAny _ _ (setNext S _ _ _>>=_) _ _ s;simp only[toNat_natCast];refine wX (T _ _ _ ?_);dsimp only;refine wX (wpAny_setField_rec G (by simp) λh1 e1 b1=>?_);refine wX (wpAny_setField_rec e1 (by simp) λh2 e2 b2=>?_);exact wY ⟨x,rfl,wY (hQ h2 (by simpa [rawInt,i7]using e2) (b1.trans b2))⟩
def o5 {k:Nat}{Q:Option Value->Shared->Prop}(hh:A.handled=none)(G:s.heap.get? it=some (i7 (.int k 0) i S es.size ep))
  (O:s.heap.get? S=some o) (hd:o.data=.set es ep t) (hf:t.fits es.size=true)
  (U:∀(A':Around)(E':QV)(M:Option (Value×Nat)->Shared->Prop),M none s->wpAny (model prog w) A' (setNext S k i ep) M E' s)
  (hQ:∀h',Heap.ExtBut it s.heap h'->Q none { s with heap:=h' }):
  wpAny (model prog w) A (pyNext (.ref it)) Q E s:=by
 unfold pyNext;refine wX (wpAny_attempt (wpAny_callSpecial?_slot (name:=Str.ofString "__next__") (cr G) aW
  (wpAny_call_entry aW (cr G) cY ?_ (dC _))))
 show wpAny _ _ (fieldsOf (.ref it)>>=_) _ _ s;refine wX (wpAny_fieldsOf G rfl ?_);show wpAny _ _ (setEntries S>>=_) _ _ s;refine wX (wpAny_setEntries_of O hd hf ?_);rw[if_neg (by simp)];show wpAny _ _ (setNext S _ _ _>>=_) _ _ s;simp only[toNat_natCast];refine wX (U _ _ _ ?_);dsimp only;refine wX (wpAny_setField_rec G (by simp) λh1 e1 b1=>?_);refine wX ?_;simp only[newExc,newTuple];refine wX (wpAny_newObj_type ?_ (by size_fits));refine wX (m:=firstArgMember _ _) (wpAny_of_eq (a:=Value.none) (by first|rfl|(simp only[firstArgMember];rfl)) ?_);refine wpAny_newObj_type ?_ (by size_fits);simp only[raiseNew];refine wX (wpAny_handled ?_);rw[show A.in1.handled=none from hh];refine wX (wY (wpAny_throw ?_));refine wX (wpAny_isInstance (T:="StopIteration") (b:=true) ⟨_,vY _ rfl,rfl⟩ isSubtype_stop ?_);exact wY (hQ _ ((b1.extBut.push _).push _))
def mq {T:Addr}{pl:LN}{p:Nat}{x:Int×Value}{nt:Nat}{Q:Option Value->Shared->Prop}(G:s.heap.get? it=some (i7 (.ref T) i S es.size ep))
  (hT:s.heap.get? T=some (seqObj "tuple" (pl.map λ(p:Nat)=>Value.int p 0).toArray nt))
  (O:s.heap.get? S=some o) (hd:o.data=.set es ep t) (hf:t.fits es.size=true) (hp:pl[i]? = some p) (hx:es[p]? = some x)
  (hQ:∀h',h'.get? it=some (i7 (.ref T) (i+1) S es.size ep)->Heap.SameBut it s.heap h'->Q (some x.2) { s with heap:=h' }):
  wpAny (model prog w) A (pyNext (.ref it)) Q E s:=by
 unfold pyNext;refine wX (wpAny_attempt (wpAny_callSpecial?_slot (name:=Str.ofString "__next__") (cr G) aW
  (wpAny_call_entry aW (cr G) cY ?_ (dC _))))
 show wpAny _ _ (fieldsOf (.ref it)>>=_) _ _ s;refine wX (wpAny_fieldsOf G rfl ?_);show wpAny _ _ (setEntries S>>=_) _ _ s;refine wX (wpAny_setEntries_of O hd hf ?_);rw[if_neg (by simp)];show wpAny _ _ (seqItems? (.ref T)>>=_) _ _ s;refine wX (wpAny_seqItems hT rfl ?_);have M:(pl.map λ(p:Nat)=>Value.int p 0).toArray[(i:Int).toNat]? = some (.int p 0):=by simp[hp]
 dsimp only;rw[M];dsimp only;have e2:wpAny (model prog w) A.in1 (setNextDrawn S (p:Int).toNat (ep:Int).toNat) (λy U=>y=x.2/\U=s) (λ_ _=>False) s:=by
  unfold setNextDrawn;refine wX (wpAny_setState_of O hd hf ?_);dsimp only;rw[if_neg (by simp)];simp only[toNat_natCast,hx];exact wY ⟨rfl,rfl⟩
 refine wX (wpAny_mono e2 (λy U hy=>?_) λ_ _ z=>z.elim);obtain⟨rfl,rfl⟩:=hy;refine wX (wpAny_setField_rec G (by simp) λh1 M b1=>?_);exact wY ⟨_,rfl,wY (hQ h1 (by simpa [rawInt,i7]using M) b1)⟩
def mr {T:Addr}{pl:LN}{nt:Nat}{Q:Option Value->Shared->Prop}(hh:A.handled=none)(G:s.heap.get? it=some (i7 (.ref T) i S es.size ep))
  (O:s.heap.get? T=some (seqObj "tuple" (pl.map λ(p:Nat)=>Value.int p 0).toArray nt))
  (U:s.heap.get? S=some o) (hd:o.data=.set es ep t) (hf:t.fits es.size=true) (hp:pl[i]? = none)
  (hQ:∀h',Heap.ExtBut it s.heap h'->Q none { s with heap:=h' }):
  wpAny (model prog w) A (pyNext (.ref it)) Q E s:=by
 unfold pyNext;refine wX (wpAny_attempt (wpAny_callSpecial?_slot (name:=Str.ofString "__next__") (cr G) aW
  (wpAny_call_entry aW (cr G) cY ?_ (dC _))))
 show wpAny _ _ (fieldsOf (.ref it)>>=_) _ _ s;refine wX (wpAny_fieldsOf G rfl ?_);show wpAny _ _ (setEntries S>>=_) _ _ s;refine wX (wpAny_setEntries_of U hd hf ?_);rw[if_neg (by simp)];show wpAny _ _ (seqItems? (.ref T)>>=_) _ _ s;refine wX (wpAny_seqItems O rfl ?_);have M:(pl.map λ(p:Nat)=>Value.int p 0).toArray[(i:Int).toNat]? = none:=by simpa using hp
 dsimp only;rw[M];dsimp only;refine wX (wpAny_setField_rec G (by simp) λh0 e0 b0=>?_);refine wX (wpAny_setField_rec e0 (by simp) λh1 M b1=>?_);refine wX ?_;simp only[newExc,newTuple];refine wX (wpAny_newObj_type ?_ (by size_fits));refine wX (m:=firstArgMember _ _) (wpAny_of_eq (a:=Value.none) (by first|rfl|(simp only[firstArgMember];rfl)) ?_);refine wpAny_newObj_type ?_ (by size_fits);simp only[raiseNew];refine wX (wpAny_handled ?_);rw[show A.in1.handled=none from hh];refine wX (wY (wpAny_throw ?_));refine wX (wpAny_isInstance (T:="StopIteration") (b:=true) ⟨_,vY _ rfl,rfl⟩ isSubtype_stop ?_);exact wY (hQ _ (((b0.trans b1).extBut.push _).push _))
def pP (G:s.heap.get? it=some (i7 fst i S n ep))(h:Q (.ref it) s):wpAny (model prog w) A (pyIter (.ref it)) Q E s:=by
 refine wpAny_pyIter_slot (cr G) ij (wpAny_call_entry ij (cr G) lp ?_ (mo _));show wpAny _ _ (ret (.ref it)) _ _ s;exact wY ⟨_,rfl,"set_iterator",_,cr G,aW.lookup,h⟩
end
section
variable {prog:Program}{w:World}{A:Around}{E:QV}{s:Shared}{it S:Addr}{i k ep:Nat}{o:Obj}{es:Array (Int×Value)}{t:SetTable}
def mL (G:s.heap.get? S=some o)(hd:o.data=.set es ep t)(hf:t.fits es.size=true)(hb:w.params.followText "set-order" = true)
  (h:Q (((pickOrder (w.params.setOrder S ep) es)[i]?).map λe=>(e.2,k)) s):wpAny (model prog w) A (setNext S k i ep) Q E s:=by
 unfold setNext;refine wX (wpAny_setState_of G hd hf ?_);dsimp only;unfold setsByText;refine wX (wX (wpAny_askSetting (wY ?_)));show wpAny _ _ (if w.params.followText "set-order" = true then _ else _) _ _ _;rw[if_pos hb,if_neg (by simp)];unfold setWalk setsByText;refine wX (wX (wpAny_setState_of G hd hf ?_));dsimp only;refine wX (wX (wpAny_askSetting (wY ?_)));show wpAny _ _ (if w.params.followText "set-order" = true then _ else _) _ _ _;rw[if_pos hb];refine wX (wpAny_askSetting (wY ?_));exact wY h
def lq (G:s.heap.get? S=some o)(hd:o.data=.set es ep t)(hf:t.fits es.size=true)(hb:w.params.followText "set-order" = false)(hl:t.led=true)(hz:es.size<=1)
  (h:Q (match es[SetTable.below t.place k]?,t.place[SetTable.below t.place k]? with
   |some (_,x),some j=>some (x,j+1)
   |_,_=>none) s):wpAny (model prog w) A (setNext S k i ep) Q E s:=by
 unfold setNext;refine wX (wpAny_setState_of G hd hf ?_);dsimp only;unfold setsByText;refine wX (wX (wpAny_askSetting (wY ?_)));show wpAny _ _ (if w.params.followText "set-order" = true then _ else _) _ _ _;rw[if_neg (by rw[hb];simp)];show wpAny _ _ (if(!t.plain && decide (es.size > 1))=true then _ else _) _ _ _;rw[if_neg (by rw[decide_eq_false (by omega)];simp)];show wpAny _ _ ((if(!t.led && !es.isEmpty)=true then unsupported "set:maker-not-led" else pure ())>>=_) _ _ _;rw[hl,if_neg (by simp)];refine wX (wY ?_);exact wY h
def mM (hh:A.handled=none)(hd:o.data=.set es ep t)(hf:t.fits es.size=true)(U:S≠it)(vs:LU)(hv:vs.length=es.size)(sl:Nat->Nat)
  (hN:∀i x,vs[i]? = some x->∀(M:Around)(O:QV)(s:Shared)(G:Option (Value×Nat)->Shared->Prop),s.heap.get? S=some o->G (some (x,sl (i+1))) s->wpAny (model prog w) M (setNext S (sl i) i ep) G O s)
  (hE:∀(M:Around)(O:QV)(s:Shared)(G:Option (Value×Nat)->Shared->Prop),s.heap.get? S=some o->G none s->wpAny (model prog w) M (setNext S (sl es.size) es.size ep) G O s):
  Walks prog w A it [it,S] [it] es.size (λi v=>vs[i]? = some v) (λi h=>h.get? it=some (i7 (.int (sl i) 0) i S es.size ep)/\h.get? S=some o) where
 sub:=λb hb=>by simp at hb;simp[hb]
 frame:=λ_ _ _ st hk=>⟨hk it (by simp) _ st.1,hk S (by simp) _ st.2⟩
 item:=λi s Q E hi st T=>by
  obtain⟨x,hx⟩:∃x,vs[i]? = some x:=⟨_,vU (by omega)⟩;refine o0 st.1 st.2 hd hf (λM O G q=>hN i x hx M O s G st.2 q) λh' h1 h2=>?_;exact T x h' s.toks hx ⟨h1,h2.extBut S _ U st.2⟩ λb u hb e=>h2.extBut b u (λz=>hb (by simp[z])) e
 done:=λs Q E st T=>o5 hh st.1 st.2 hd hf (λM O G q=>hE M O s G st.2 q) λh' h1=>T h' s.toks λb u hb e=>h1 b u (λz=>hb (by simp[z])) e
 self:=λ_ _ _ _ st T=>pP st.1 T
def rC {T:Addr}{pl:LN}{nt:Nat}(hh:A.handled=none)(hd:o.data=.set es ep t)(hf:t.fits es.size=true)(O:S≠it)(U:T≠it)(hp:pl.Perm (List.range es.size)):
  Walks prog w A it [it,S,T] [it] es.size (λi v=>(pl.map λp=>(es.getD p (0,.none)).2)[i]? = some v)
   (λi h=>h.get? it=some (i7 (.ref T) i S es.size ep)/\h.get? S=some o/\h.get? T=some (seqObj "tuple" (pl.map λ(p:Nat)=>Value.int p 0).toArray nt)) where
 sub:=λb hb=>by simp at hb;simp[hb]
 frame:=λ_ _ _ st hk=>⟨hk it (by simp) _ st.1,hk S (by simp) _ st.2.1,hk T (by simp) _ st.2.2⟩
 item:=λi s Q E hi st G=>by
  have M:pl.length=es.size:=by rw[hp.length_eq,length_range]
  obtain⟨p,hx⟩:∃p,pl[i]? = some p:=⟨_,vU (by omega)⟩;have Kl:p<es.size:=mem_range.mp (hp.mem_iff.mp (mem_of_getElem? hx));have he:es[p]? = some (es.getD p (0,.none)):=by rw[getD_eq_getD_getElem?,getElem?_eq_getElem Kl];rfl
  refine mq st.1 st.2.2 st.2.1 hd hf hx he λh' h1 h2=>?_;exact G _ h' s.toks (by simp[hx]) ⟨h1,h2.extBut S _ O st.2.1,h2.extBut T _ U st.2.2⟩ λb u hb e=>h2.extBut b u (λz=>hb (by simp[z])) e
 done:=λs Q E st G=>by
  have M:pl.length=es.size:=by rw[hp.length_eq,length_range]
  exact mr hh st.1 st.2.2 st.2.1 hd hf (getElem?_eq_none (by omega)) λh' h1=>G h' s.toks λb u hb e=>h1 b u (λz=>hb (by simp[z])) e
 self:=λ_ _ _ _ st G=>pP st.1 G
end
def rE {α:Type}(es:Array α)(d:α):(List.range es.size).map (λp=>es.getD p d)=es.toList:=by
 apply ext_getElem?;intro i;by_cases h:i<es.size
 ·simp[h,getD_eq_getD_getElem?]
 ·simp[h]
section
variable {prog:Program}{w:World}{A:Around}{E:QV}{s:Shared}
def mN (h:xs=#[j]):SetTable.below xs k=if j<k then 1 else 0:=by
 subst h;by_cases h:j<k
 ·simp[SetTable.below,SetTable.below.go,h]
 ·simp[SetTable.below,SetTable.below.go,h]
def xl {S:Addr}{ts:LS}{Q:QV}(hS:fu prog w s.heap S ts)
  (hQ:∀(h':Heap)(d:Drawn)(it:Addr)(vs:LU)(fp:List Addr)(St:Nat->Heap->Prop),(∀A',A'.handled=none->Walks prog w A' it fp [it] ts.length (λi v=>vs[i]? = some v) St)->St 0 h' ->
   (∀b u,s.heap.get? b=some u->h'.get? b=some u)->s.heap.objs.size<=it->(∀b∈fp,b=S∨s.heap.objs.size<=b)->vs.length=ts.length->(vs.map strOf).Perm ts->(∀v∈vs,∃x t,v=.str x t) ->
   Q (.ref it) { s with heap:=h',drawn:=d }):wpAny (model prog w) A (pyIter (.ref S)) Q E s:=by
 obtain⟨o,es,ep,t,ho,Ax,hd,AZ,hp,nd,hb,hf,Ay,y7⟩:=hS;have sz:es.size=ts.length:=by rw[←hp.length_eq,vI,vG]
 have T:S<s.heap.objs.size:=vX ho;have I0:s.TypeIs (.ref S) "set":=⟨_,ho,Ax.1⟩;have M:∀e∈es.toList,∃x t,e.2=.str x t:=λe he=>by
  obtain⟨⟨k,hk,_⟩,_⟩:=AZ e he;obtain⟨t,q⟩:=Value.isStrOf_shape (show Value.isStrOf k e.2=true from hk);exact⟨k,t,q⟩
 refine wpAny_pyIter_slot I0 slot_set_iter (wpAny_call_entry slot_set_iter I0 kx ?_ (PySem.F.args_set_iter_1 _));show wpAny _ _ (Builtin.Frozenset.sizeOf S>>=_) _ _ s;unfold Builtin.Frozenset.sizeOf;refine wX (wX (wpAny_setEntries_of ho hd hf (wY ?_)));unfold setDrawn setsByText;refine wX (wX (wpAny_setState_of ho hd hf ?_));dsimp only;refine wX (wX (wpAny_askSetting (wY (wY ?_))));show wpAny _ _ (if(!w.params.followText "set-order" && (!t.plain && decide (es.size > 1)))=true then _ else _) _ _ _;have U:(es.toList.map (·.2)).map strOf=es.toList.map (λe=>strOf e.2):=by rw[map_map];rfl
 by_cases G:w.params.followText "set-order" = true
 ·rw[if_neg (by rw[G];simp)];refine wX (wY ?_);refine wX (wpAny_setEpoch_of ho hd hf ?_);have pp:=uE (w.params.setOrder S ep) es;have lZ:((pickOrder (w.params.setOrder S ep) es).toList.map (·.2)).length=es.size:=by rw[vI,pp.length_eq,vG]
  refine wX (wpAny_newObj_type (wY ⟨_,rfl,"set_iterator",_,⟨_,vY _ rfl,rfl⟩,aW.lookup,?_⟩));refine hQ _ s.drawn s.heap.objs.size ((pickOrder (w.params.setOrder S ep) es).toList.map (·.2)) [s.heap.objs.size,S] (λi h=>h.get? s.heap.objs.size=some (i7 (.int ((λ_=>0:Nat->Nat) i:Nat) 0) i S es.size ep)/\h.get? S=some o) (λA' hA=>?_) ?_ (λb u e=>vZ _ e) (vT _) (λb hb=>?_) (lZ.trans sz) ?_ ?_
  ·rw[←sz];exact mM hA hd hf (vS T) _ lZ (λ_=>0) (λi x hx A' E' s Q' h1 h2=>mL h1 hd hf G (by
    rw[vB,getElem?_toList]at hx;obtain⟨e,he,rfl⟩:=oY hx;rw[he];exact h2)) (λA' E' s Q' h1 h2=>mL h1 hd hf G (by
    rw[Array.getElem?_eq_none (by rw[←vG,pp.length_eq,vG];exact vT _)];exact h2))
  ·exact⟨vY _ rfl,vZ _ ho⟩
  ·simp only[mem_cons,not_mem_nil,or_false]at hb;rcases hb with rfl|rfl
   ·exact .inr (vT _)
   ·exact .inl rfl
  ·refine List.Perm.trans ?_ hp;rw[←U];exact(pp.map _).map _
  ·intro v hv;obtain⟨e,he,rfl⟩:=mem_map.mp hv;exact M e (pp.mem_iff.mp he)
 ·rw[Bool.not_eq_true]at G;have hl:t.led=true:=by rw[Ay,G];rfl
  by_cases h1:es.size<=1
  ·rw[if_neg (by rw[decide_eq_false (by omega)];simp)];refine wX (wY ?_);refine wX (wpAny_setEpoch_of ho hd hf ?_);refine wX (wpAny_newObj_type (wY ⟨_,rfl,"set_iterator",_,⟨_,vY _ rfl,rfl⟩,aW.lookup,?_⟩));have Lf:t.place.size=es.size:=by
    simp only[SetTable.fits,vD,beq_iff_eq,decide_eq_true_eq]at hf;exact hf.1
   refine hQ _ s.drawn s.heap.objs.size (es.toList.map (·.2)) [s.heap.objs.size,S] (λi h=>h.get? s.heap.objs.size=some (i7 (.int ((λi=>if i=0 then 0 else t.place.getD 0 0+1:Nat->Nat) i:Nat) 0) i S es.size ep)/\h.get? S=some o) (λA' hA=>?_) ?_ (λb u e=>vZ _ e) (vT _) (λb hb=>?_) (by rw[vI,vG,sz]) (by rw[U];exact hp) ?_
   ·rw[←sz];refine mM hA hd hf (vS T) _ (by simp) (λi=>if i=0 then 0 else t.place.getD 0 0+1) (λi x hx A' E' s Q' q1 q2=>lq q1 hd hf G hl h1 ?_) (λA' E' s Q' q1 q2=>lq q1 hd hf G hl h1 ?_)
    ·have hi:i<es.size:=by have:=(vV hx).1;simpa using this
     have Km:i=0:=by omega
     subst Km;obtain⟨j,hj⟩:∃j,t.place=#[j]:=Array.size_eq_one_iff.mp (by omega);rw[if_pos rfl,mN hj,if_neg (by omega)];rw[vB,getElem?_toList]at hx;obtain⟨e,he,rfl⟩:=oY hx;rw[he];simp only[hj]at q2 ⊢;simpa using q2
    ·by_cases h0:es.size=0
     ·have Hh:t.place=#[]:=Array.eq_empty_of_size_eq_zero (by omega);have Kn:es=#[]:=Array.eq_empty_of_size_eq_zero h0;rw[Hh,Kn];simpa using q2
     ·obtain⟨j,hj⟩:∃j,t.place=#[j]:=Array.size_eq_one_iff.mp (by omega);rw[if_neg h0,mN hj];have:t.place.getD 0 0=j:=by rw[hj];rfl
      rw[this,if_pos (by omega),Array.getElem?_eq_none (by omega)];exact q2
   ·exact⟨vY _ rfl,vZ _ ho⟩
   ·simp only[mem_cons,not_mem_nil,or_false]at hb;rcases hb with rfl|rfl
    ·exact .inr (vT _)
    ·exact .inl rfl
   ·intro v hv;obtain⟨e,he,rfl⟩:=mem_map.mp hv;exact M e he
  ·have Hh:t.plain=false:=y7 (by omega);rw[if_pos (by rw[G,Hh,decide_eq_true (by omega)];rfl)];refine wX (tf es.size (List.range es.size) _ _ (by simp) λpl d pp=>?_);refine wX (wpAny_newTuple ?_ (by rw[vI,pp.length_eq,length_range,sz];exact fits_of_scanBound hb));refine wX (wpAny_setEpoch_of (vZ _ ho) hd hf ?_);refine wX (wpAny_newObj_type (wY ⟨_,rfl,"set_iterator",_,⟨_,vY _ rfl,rfl⟩,aW.lookup,?_⟩));have hsz:(s.heap.push (seqObj "tuple" (pl.map λ(p:Nat)=>Value.int p 0).toArray 0)).objs.size=s.heap.objs.size+1:=size_push' _ _;have O:((pl.map λp=>(es.getD p (0,.none)).2)).Perm (es.toList.map (·.2)):=by
    have:=(pp.map λp=>es.getD p (0,Value.none)).map (·.2);rw[rE]at this;rw[map_map]at this;exact this
   refine hQ _ d _ (pl.map λp=>(es.getD p (0,.none)).2) [(s.heap.push (seqObj "tuple" (pl.map λ(p:Nat)=>Value.int p 0).toArray 0)).objs.size,S,s.heap.objs.size] (λi h=>h.get? (s.heap.push (seqObj "tuple" (pl.map λ(p:Nat)=>Value.int p 0).toArray 0)).objs.size=some (i7 (.ref s.heap.objs.size) i S es.size ep)/\h.get? S=some o/\h.get? s.heap.objs.size=some (seqObj "tuple" (pl.map λ(p:Nat)=>Value.int p 0).toArray 0)) (λA' hA=>?_) ?_ (λb u e=>vZ _ (vZ _ e)) ?_ (λb hb=>?_) ?_ ?_ ?_
   ·rw[←sz];exact rC (nt:=0) hA hd hf (by show S≠(s.heap.push _).objs.size;rw[size_push'];exact vS (lt_succ_of_lt T)) (by show s.heap.objs.size≠(s.heap.push _).objs.size;rw[size_push'];exact vS (lt_succ_self _)) pp
   ·exact⟨vY _ rfl,vZ _ (vZ _ ho),vZ _ (vY _ rfl)⟩
   ·show s.heap.objs.size<=(s.heap.push _).objs.size;rw[size_push'];omega
   ·simp only[mem_cons,not_mem_nil,or_false]at hb;rcases hb with rfl|rfl|rfl
    ·refine .inr ?_;show s.heap.objs.size<=(s.heap.push _).objs.size;rw[size_push'];omega
    ·exact .inl rfl
    ·exact .inr (vT _)
   ·rw[O.length_eq,vI,vG,sz]
   ·exact((O.map strOf).trans (by rw[U])).trans hp
   ·intro v hv;obtain⟨e,he,rfl⟩:=mem_map.mp (O.mem_iff.mp hv);exact M e he
end
def uF (h:ItemsOf (λi v=>vs[i]? = some v) qM vs.length):qM.toList=vs:=by
 apply ext_getElem?;intro i;by_cases hi:i<qM.size
 ·have e:qM[i]? = some qM[i]:=getElem?_eq_getElem hi;rw[getElem?_toList,e,h.2 i _ e]
 ·rw[getElem?_eq_none (by rw[vG];omega),getElem?_eq_none (by rw[←h.1];omega)]
section
variable {prog:Program}{w:World}{A:Around}{E:QV}{s:Shared}
def pQ (hh:A.handled=none)(hS:fu prog w s.heap S ts)
  (hQ:∀M vs,(∀b u,s.heap.get? b=some u->M.heap.get? b=some u)->M.gens=s.gens->M.os=s.os->vs.length=ts.length->(vs.map strOf).Perm ts->(∀v∈vs,∃x t,v=.str x t)->Q vs M):
  wpAny (model prog w) A (collect (.ref S)) Q E s:=by
 have G:∀(s1:Shared),fu prog w s1.heap S ts->s1.TypeIs (.ref S) "set":=λs1 h=>by
  obtain⟨o,_,_,_,ho,Ax,_⟩:=h;exact⟨o,ho,Ax.1⟩
 have wa:S<s.heap.objs.size:=by obtain⟨o,_,_,_,ho,_⟩:=hS;exact vX ho
 have U:ts.length<scanBound:=by obtain⟨_,_,_,_,_,_,_,_,_,_,h,_⟩:=hS;exact h
 unfold collect;refine wX (wpAny_runValue (codeAny_builtin PySem.F.entry_proto_collect ?_));rw[Around.under_plainId PySem.F.plain_proto_collect _];show wpAny _ A.in1 (newList []>>=λl=>again (.builtin "list.__iadd__" ⟨[l,.ref S],[]⟩)) _ _ s;refine wX (wpAny_newObj_type ?_);refine wY ⟨plainId_quiet PySem.F.plain_list_iadd _,codeAny_builtin PySem.F.entry_list_iadd ?_⟩;rw[Around.under_plainId PySem.F.plain_list_iadd _];show wpAny _ A.in1 (Builtin.List.listExtendWith (.ref s.heap.objs.size) (.ref S) (.ref s.heap.objs.size)) _ _ _;unfold Builtin.List.listExtendWith;have Hi:fu prog w (s.heap.push { cls:=.type "list",data:=.seq ([]:LU).toArray }) S ts:=hS.at λo e=>vZ _ e;refine wX (wpAny_typeOf (G _ Hi) ?_);have IA:s.heap.objs.size≠S:=ne_of_gt wa;have h1:Builtin.List.listSameRef (.ref s.heap.objs.size) (.ref S)=false:=by simp[Builtin.List.listSameRef,IA]
 have h2:(Value.type "set" == Value.type "list")=false:=by decide
 have h3:(Value.type "set" == Value.type "tuple")=false:=by decide
 simp only[h1,h2,h3,Bool.or_false,uW,if_false];refine wX (xl (s:={ s with heap:=s.heap.push { cls:=.type "list",data:=.seq ([]:LU).toArray } }) Hi λh' d it vs fp St W FF hk hit hfp EE hperm yA=>?_);have Ba:fu prog w h' S ts:=Hi.at λo e=>hk _ _ e;refine wX (wpAny_holding ?_);unfold Builtin.List.listLengthHint;refine wX (wpAny_specialOf (G _ Ba) PySem.F.slot_set_len.lookup ?_);wp_delta;refine wX (wpAny_isInstance (G _ Ba) sub_set_self ?_);show wpAny _ A.in1 (typeOf (Value.ref S)>>=_) _ _ _;refine wX (wpAny_typeOf (G _ Ba) ?_);refine wY ?_;rw[if_pos (by decide)];refine wX (wpAny_rule ?_);refine wX ?_;have O:(s.heap.push { cls:=.type "list",data:=.seq ([]:LU).toArray }).objs.size=s.heap.objs.size+1:=size_push' _ _;have IB:h'.get? s.heap.objs.size=some { cls:=.type "list",data:=.seq ([]:LU).toArray }:=hk _ _ (vY _ rfl);show wpAny _ A.in1 (updateSeq s.heap.objs.size (·.push .none)>>=λ_=>updateSeq s.heap.objs.size (·.pop)) _ _ _;refine wX (wpAny_updateSeq IB rfl ?_);have IC:=Heap.get?_update_self (Obj.mapSeq (·.push Value.none)) IB rfl;refine wpAny_updateSeq IC rfl ?_;have Ko:=Heap.get?_update_self (Obj.mapSeq (·.pop)) IC rfl;have FC:s.heap.objs.size∉fp:=λhm=>by
  rcases hfp _ hm with z|z
  ·exact IA z
  ·rw[O]at z;exact absurd z (Nat.not_succ_le_self _)
 have wb:∀b u,b≠s.heap.objs.size->h'.get? b=some u ->
   ((h'.update s.heap.objs.size (Obj.mapSeq (·.push Value.none))).update s.heap.objs.size (Obj.mapSeq (·.pop))).get? b=some u :=
  λb u hb e=>(Heap.get?_update_other _ _ (Ne.symm hb)).trans ((Heap.get?_update_other _ _ (Ne.symm hb)).trans e)
 have W0:=W A.in1 hh;refine wY ⟨plainId_quiet plain_extend_loop _,codeAny_extend_loopS W0.toS (fits_of_scanBound U) _ FC _ ts.length 0 _ _ _ rfl (uO _)
  (W0.frame 0 _ _ FF λb hb u e=>wb b u (λz=>FC (z ▸ hb)) e) Ko (ItemsOf.nil _) λM acc' c' hm hL' T=>?_⟩
 show wpAny _ A (load s.heap.objs.size>>=_) _ _ M;refine wX (wpAny_load hL' ?_);rw[←EE]at T;refine wY ?_;show Q acc'.toList M;rw[uF T];refine hQ M vs (λb u e=>hm.heap b u (λhb=>?_) (wb b u (vS (vX e)) (hk _ _ (vZ _ e)))) hm.gens hm.os EE hperm yA;have hl:=vX e;simp only[mem_cons,not_mem_nil,or_false]at hb;rcases hb with rfl|rfl
 ·exact absurd hl (Nat.lt_irrefl _)
 ·rw[O]at hit;exact absurd (vQ hl (Nat.le_of_succ_le hit)) (Nat.lt_irrefl _)
def rF (hh:A.handled=none)(hS:fu prog w s.heap S ts)(Hj:ts.length<64)
  (hQ:∀(s1:Shared)(h':Heap)(a:Addr)(out:AV)(n:Nat)(G:LS),(∀b u,s.heap.get? b=some u->s1.heap.get? b=some u)->s1.os=s.os->s1.gens=s.gens->(∀b u,s1.heap.get? b=some u->h'.get? b=some u)->s1.heap.objs.size<=a->h'.get? a=some (seqObj "list" out n) ->
   StrsAre out.toList G->G.Perm ts->sortedS G=true->Q (.ref a) { s1 with heap:=h' }):
  wpAny (model prog w) A (call (.builtin "sorted") [.ref S]) Q E s:=by
 refine Calls.call_function_entry kind_sorted plain_sorted entry_sorted (args_sorted1 _) ?_;unfold Builtin.«sorted»;refine wX (m:=checkCount "sorted" 1 1 _) (wY ?_);refine wX (pQ (A:=A.in1) (by exact hh) hS λs1 vs hk hg hos U M yA=>?_);have O:StrsAre vs (vs.map strOf):=strsAre_map vs yA;refine wX (wpAny_newList ?_ (by rw[U,sizeLine_eq];omega));have T:(s1.heap.push (seqObj "list" vs.toArray 0)).get? s1.heap.objs.size=some (seqObj "list" vs.toArray 0):=vY _ rfl;show wpAny _ _ _ _ _ { s1 with heap:=s1.heap.push (seqObj "list" vs.toArray 0) };refine wX (wpAny_holding (wpAny_call_entry slot_list_sort ⟨_,T,rfl⟩ entry_list_sort (list_sort_treeK strKind_oneLt T O.keysOf (λv₁ v₂ ao e=>keyKind_strs (by rw[←e];exact O)) (by rw[U];exact Hj) λHk a1 a2=>⟨_,rfl,?_⟩) (args_list_sort _)));obtain⟨G,b1,b2,b3⟩:=sorted_out_str O a1 a2;obtain⟨e,he⟩:=sortedHeap_at (out:=(arrOf Hk).map (·.2)) T;refine wY ⟨_,rfl,hQ s1 _ _ _ e G hk hos hg (λb u q=>?_) (vT _) he b1 (b2.trans M) b3⟩;have hl:=vX q;rw[sortedHeap_old (vS hl) (by rw[size_push'];exact lt_succ_of_lt hl)];exact vZ _ q
end
end DL
namespace DL
open PySem PySem.Spec PyProof.Rows L2
def o6 (a b:Str):Prop:=¬b.cps.toList<a.cps.toList
def tm:ltCps b.cps.toList a.cps.toList=false↔o6 a b:=by rw[ltCps_eq,decide_eq_false_iff_not];rfl
def mO (h:o6 a b)(k:o6 b c):o6 a c:=by
 unfold o6 at *;exact not_lt.mpr (le_trans (not_lt.mp h) (not_lt.mp k))
def xm (h:o6 a b)(k:o6 b a):a=b:=by
 have e:a.cps.toList=b.cps.toList:=le_antisymm (not_lt.mp h) (not_lt.mp k);obtain⟨a⟩:=a;obtain⟨b⟩:=b;have:a=b:=toList_inj.mp e;rw[this]
noncomputable def rG (x:Str):LS->LS
 |[]=>[x]
 |y::r=>if ltCps y.cps.toList x.cps.toList then y::rG x r else x::y::r
def iX (l:LS):LS:=l.foldr rG []
theorem jD (x:Str):∀l,(rG x l).Perm (x::l)
 |[]=>List.Perm.refl _
 |y::r=>by
  unfold rG;split
  ·exact((jD x r).cons y).trans (List.Perm.swap x y r)
  ·exact List.Perm.refl _
theorem dm:∀l,(iX l).Perm l
 |[]=>List.Perm.refl _
 |x::l=>(jD x (iX l)).trans ((dm l).cons x)
theorem mP (x:Str):∀l,l.Pairwise o6->(rG x l).Pairwise o6
 |[],_=>by simp[rG]
 |y::r,h=>by
  obtain⟨h1,h2⟩:=pairwise_cons.mp h;unfold rG;split
  ·rename_i hl;refine pairwise_cons.mpr ⟨λz hz=>?_,mP x r h2⟩;rcases vP ((jD x r).mem_iff.mp hz)with rfl|hz
   ·rw[ltCps_eq,decide_eq_true_eq]at hl;exact λk=>lt_irrefl _ (lt_trans hl k)
   ·exact h1 z hz
  ·rename_i hl;rw[Bool.not_eq_true]at hl;have G:o6 x y:=tm.mp hl;refine pairwise_cons.mpr ⟨λz hz=>?_,h⟩;rcases vP hz with rfl|hz
   ·exact G
   ·exact mO G (h1 z hz)
theorem lr:∀l,(iX l).Pairwise o6
 |[]=>List.Pairwise.nil
 |x::l=>mP x _ (lr l)
theorem jW:∀(l:LS)(p:Str),risingS p l=true->(p::l).Pairwise o6
 |[],p,_=>List.pairwise_singleton _ _
 |x::r,p,h=>by
  have h':(!ltCps x.cps.toList p.cps.toList && risingS x r)=true:=h;rw[vD]at h';have G:o6 p x:=tm.mp (by simpa using h'.1);have M:=jW r x h'.2;refine pairwise_cons.mpr ⟨λz hz=>?_,M⟩;rcases vP hz with rfl|hz
  ·exact G
  ·exact mO G ((pairwise_cons.mp M).1 z hz)
theorem pR:∀(l:LS),sortedS l=true->l.Pairwise o6
 |[],_=>List.Pairwise.nil
 |x::r,h=>jW r x h
def pS (a:Str):o6 a a:=lt_irrefl _
theorem ls:∀(l1 l2:LS),l1.Perm l2->l1.Pairwise o6->l2.Pairwise o6->l1=l2
 |[],l2,p,_,_=>(nil_perm.mp p).symm
 |x::O,[],p,_,_=>absurd p.length_eq (by simp)
 |x::O,y::T,p,h1,h2=>by
  have G:o6 x y:=by
   rcases vP (p.mem_iff.mpr (mX ..))with z|z
   ·rw[z];exact pS _
   ·exact(pairwise_cons.mp h1).1 y z
  have M:o6 y x:=by
   rcases vP (p.mem_iff.mp (mX ..))with z|z
   ·rw[z];exact pS _
   ·exact(pairwise_cons.mp h2).1 x z
  have e:=xm G M;subst e;rw[ls O T (List.Perm.cons_inv p) (pairwise_cons.mp h1).2 (pairwise_cons.mp h2).2]
def mQ (p:l'.Perm l)(h:sortedS l'=true):l'=iX l:=ls _ _ (p.trans (dm l).symm) (pR _ h) (lr l)
section
variable {X:Cx}
noncomputable def pT (X:Cx)(S:Addr)(G:LS):HO:=.ext λh=>fu X.prog X.w h S G
def uG (I:Inv X aa σ H s)(k:∀b u,s.heap.get? b=some u->s1.heap.get? b=some u)(G:s1.os=s.os)(M:s1.gens=s.gens):Inv X aa σ H s1:=by
 have O:=I.step (g':=s.gens) (d':=s1.drawn) (t':=s1.toks) (h':=s1.heap) (H':=H) (ch:=[]) (λ_ z=>nomatch z) (λb o _ _ _ e _=>k b o e) (λb o _ _ _ e _=>⟨o.slots,k b o e⟩) (λ_ _ _ _ n=>n)
  (λb o _ e=>⟨o,k b o e⟩) (λ_ _ e=>e) (λ_ _ _ e=>e) (λ_ _ e=>e) (λm hm=>?_) (I.hok.kept k) I.bare
 ·obtain⟨h1,U,d1,t1,o1⟩:=s1;cases G;cases M
  exact O
 ·obtain⟨o,es,T,G,r⟩:=hm;exact⟨o,es,T,k _ o G,r⟩
def jX (hc:X.calm=true):bp X (.type "set") (λxs H Q=>∃p ys ss,xs=[.ref p]/\dZ X.K H p ys/\(∀its,aO ys its->StrsAre its ss)/\ss.length<4000/\∀S,H S=none->Q (.ref S) (upd H S (pT X S (fw ss)))):=by
 intro aa s σ H xs us Q I r h;obtain⟨p,ys,ss,rfl,hq,hs,T,q⟩:=h;obtain⟨u,rfl,U⟩:=gA r;cases U
 obtain⟨its,r',pl,hz⟩:=I.list hq;have G:=hs its r';have M:its.length=ss.length:=by rw[←G.strs,vI]
 refine ln (I.ok.hd hc) pl.isList (by simpa using G) (by simp only[vH];unfold scanBound;omega) λh' tk O hk=>?_;refine⟨.ref s.heap.objs.size,_,I.laid (t':=tk) (λb u e=>hk b u (vX e) e) (vT _) ?_,rfl,q _ (I.hok.fresh (vT _))⟩;refine⟨O,?_,λh1 h2 z k=>z.at k⟩;obtain⟨o,_,_,_,ho,_⟩:=O;exact⟨o,ho⟩
def ky (hc:X.calm=true):bp X (.builtin "sorted") (λxs H Q=>∃S M,xs=[.ref S]/\H S=some (pT X S M)/\M.length<64/\∀l,H l=none->Q (.ref l) (upd H l (.lst ((iX M).map .str)))):=by
 intro aa s σ H xs us Q I r h;obtain⟨S,M,rfl,hS,O,q⟩:=h;obtain⟨u,rfl,rx⟩:=gA r;cases rx
 have hT:fu X.prog X.w s.heap S M:=(I.hok S _ hS).1;refine rF (I.ok.hd hc) hT O λs1 h' a out n ss' k1 ho hg k2 hp he T G U=>?_;have e:=mQ G U;subst e;have I1:=uG I k1 ho hg;have hv:∀ {its:LU}{zs:LS},StrsAre its zs->aO (zs.map V.str) its:=λz=>by
  induction z with
  |nil=>exact .nil
  |cons x t _ ih=>exact .cons ⟨t,rfl⟩ ih
 refine⟨.ref a,_,I1.laid (t':=s1.toks) k2 hp (show bH X.prog X.w _ h' _ (.lst _)from ⟨?_,out.toList,n,hv T,he⟩),rfl,q _ (I1.hok.fresh hp)⟩;rw[vI,(dm M).length_eq,sizeLine_eq];omega
end
@[simp] def iY:D->OB
 |.lst ds=>(fD ds).bind λss=>if ss.length<64 then some (.lst ((iX (fw ss)).map .str),true)else none
 |_=>none
@[simp] def iZ:D->OB
 |.lst ds=>(fD ds).bind λss=>if ss.length<4000 then some (.int ((fw ss).length:Nat),false)else none
 |_=>none
def lu:bootBuiltins "sorted" = some (.builtin "sorted"):=by decide +kernel
def AK:bootBuiltins "set" = some (.type "set"):=by decide +kernel
theorem jd {K:Frag}{N:Hp}:∀(G:LS),IsL K N (G.map V.str) (G.map D.str)
 |[]=>.nil
 |z::G=>.cons (.str z) (jd G)
section
variable {X:Cx}{e:Expr}{pos pos2 p p2:Pos}
def rH (hc:X.calm=true)(m1:X.mg "sorted" = none)(m2:X.mg "set" = none)(he:JE X e f)(g1:Gl X "sorted":=by rfl)(g2:Gl X "set":=by rfl)
  (h1:starEach [e] X.env=(false,eval e X.env)::starEach [] X.env:=by rfl):JE X (.Call (.Name "sorted" p) [.Call (.Name "set" p2) [e] [] pos2] [] pos) (f1 iY f):=by
 refine PE.to (kR (ky hc) g1 m1 lu (cy (j5 (jX hc) g2 m2 AK (cy he dP h1) (he:=h1)) dP)) λσ H Q q=>?_;obtain⟨B,ρ,d',bb,sB,r,G,q⟩:=q;obtain⟨T,ex,G⟩:=oX G;refine⟨B,ρ,T.1,T.2,sB,r,ex,λv H1 N1 O i1 fr=>?_⟩;obtain⟨xd,xb⟩:=T;cases i1<;>try (simp[iY]at G;done)
 rename_i l0 vs ds h hl;simp only[iY]at G;obtain⟨ss,ez,G⟩:=oX G;split at G
 ·rename_i U;cases G
  refine⟨_,_,ss,rfl,O.nh.seq h,λits r'=>eP r' hl ez,by omega,λS hS=>⟨S,_,rfl,a8,lt_of_le_of_lt (lm ss) U,λl M=>?_⟩⟩;have x2:=Ext.laid (o:=pT X S (fw ss)) O.nh hS;have x3:=Ext.laid (o:=.lst ((iX (fw ss)).map V.str)) x2.nh M;have Kq:H l=none:=((O.trans x2).hh).free M;exact q _ _ _ ((O.trans x2).trans x3) (.lst (dZ.of a8) (jd _)) λ_=>⟨_,_,_,rfl,rfl,Kq,a8,jd _⟩
 ·cases G
end
end DL
namespace DL
open PySem PySem.Spec PySem.W PyProof.Rows
inductive Run (n:Nat)(lt:Nat->Nat->Bool){α:Type}:KasT α->α->Prop where
 |ret (a:α):Run n lt (.ret a) a
 |ask {i j:Nat}{k:Bool->KasT α}{a:α}(hi:i<n) (hj:j<n) (h:Run n lt (k (lt i j)) a):Run n lt (.ask i j k) a
def Run.bind {n:Nat}{lt:Nat->Nat->Bool}{α G:Type}{t:KasT α}{f:α->KasT G}{a:α}{b:G}(h:Run n lt t a)(k:Run n lt (f a) b):Run n lt (t.bind f) b:=by
 induction h with
 |ret a=>exact k
 |ask hi hj _ M=>exact .ask hi hj (M k)
def Run.wp {n:Nat}{lt:Nat->Nat->Bool}{α:Type}{M:Nat->Nat->(Bool->Shared->Prop)->Shared->Prop}{Q:α->Shared->Prop}{t:KasT α}{a:α}(J:Shared->Prop)
  (hc:∀i j C s,i<n->j<n->J s->(∀G,J G->C (lt i j) G)->M i j C s) (h:Run n lt t a):∀ {s:Shared},J s->(∀G,J G->Q a G)->t.kasWp M Q s:=by
 induction h with
 |ret a=>intro s O T;exact T s O
 |ask hi hj _ ih=>intro s O T;exact hc _ _ _ _ hi hj O λG U=>ih U T
section
variable {n:Nat}{rk:Nat->Int}
noncomputable abbrev mR (rk:Nat->Int)(i j:Nat):Bool:=decide (rk i<rk j)
noncomputable def bD (rk:Nat->Int)(p:Array Nat)(k:Nat):Int:=rk (p.getD k 0)
structure km (n:Nat)(p:Array Nat):Prop where
 size:p.size=n
 perm:p.toList.Perm (List.range n)
def km.lt {p:Array Nat}(h:km n p){k:Nat}(hk:k<n):p.getD k 0<n:=by
 have G:k<p.size:=by rw[h.size];exact hk
 have:p.getD k 0=p[k]:=by rw[getD_eq_getD_getElem?,getElem?_eq_getElem G];rfl
 rw[this];exact mem_range.mp (h.perm.mem_iff.mp (by simp))
def km.rev {p:Array Nat}(h:km n p)(i j:Nat):km n (kas_rev p i j) :=
 ⟨(mirror_size _ _ _ _).trans h.size,(Array.perm_iff_toList_perm.mp (mirror_perm p i j _)).trans h.perm⟩
def km.bub {p:Array Nat}(h:km n p)(k d:Nat):km n (bubble p k d) :=
 ⟨(bubble_size _ _ _).trans h.size,(Array.perm_iff_toList_perm.mp (bubble_perm p k d)).trans h.perm⟩
def o7 {p:Array Nat}{i j:Nat}(hj:j<=p.size)(k:Nat):bD rk (kas_rev p i j) k=if i<=k/\k<j then bD rk p (i+j - 1 - k)else bD rk p k:=by
 unfold bD kas_rev;rw[getD_eq_getD_getElem?,getElem?_mirror_all hj];split<;>rw[getD_eq_getD_getElem?]
def xn {p:Array Nat}{G d:Nat}(hs:G<p.size)(hd:d<=G)(k:Nat):bD rk (bubble p G d) k=if k=G - d then bD rk p G else if G - d<k/\k<=G then bD rk p (k - 1)else bD rk p k:=by
 unfold bD;simp only[getD_eq_getD_getElem?];rw[getElem?_bubble hs d hd];repeat' split
 all_goals rfl
def Up (rk:Nat->Int)(p:Array Nat)(m:Nat):Prop:=∀i j,i<=j->j<m->bD rk p i<=bD rk p j
def o8 (rk:Nat->Int)(p:Array Nat)(m:Nat):Prop:=∀i j,i<=j->j<m->bD rk p j<=bD rk p i
def Ce (p:Array Nat):Up rk p 1:=λi j h1 h2=>by
 have:i=j:=by omega
 subst this;exact le_refl _
theorem o9 {p:Array Nat}(h:km n p){r:Nat}(hr:r<=n):∀(f m:Nat),r - m=f->1<=m->m<=r->Up rk p m->∃G,Run n (mR rk) (kas_asc p f m) G/\m<=G/\G<=r/\Up rk p G/\(G<r->bD rk p G<bD rk p (G - 1))
 |0,m,hf,h1,hm,hu=>⟨m,.ret m,vT _,hm,hu,λz=>by omega⟩
 |f+1,m,hf,h1,hm,hu=>by
  have T:=h.lt (k:=m) (by omega);have U:=h.lt (k:=m - 1) (by omega);by_cases hc:bD rk p m<bD rk p (m - 1)
  ·refine⟨m,.ask T U ?_,vT _,hm,hu,λ_=>hc⟩;have:mR rk (p.getD m 0) (p.getD (m - 1) 0)=true:=decide_eq_true hc;rw[this,if_pos rfl];exact .ret m
  ·have M:Up rk p (m+1):=λi j O hj=>by
    by_cases e:j=m
    ·subst e;by_cases e2:i=j
     ·subst e2;exact le_refl _
     ·have:=hu i (j - 1) (by omega) (by omega);omega
    ·exact hu i j O (by omega)
   obtain⟨G,q1,q2,q3,q4,q5⟩:=o9 h hr f (m+1) (by omega) (by omega) (by omega) M;refine⟨G,.ask T U ?_,by omega,q3,q4,q5⟩;have:mR rk (p.getD m 0) (p.getD (m - 1) 0)=false:=decide_eq_false hc;rw[this,if_neg uY];exact q1
def zJ (rk:Nat->Int)(p:Array Nat)(m q:Nat):Prop:=q+1<=m/\∀k,m - (q+1)<=k->k<m->bD rk p k=bD rk p (m - 1)
def pU {p:Array Nat}{m q:Nat}(hs:m<=p.size)(hf:zJ rk p m q)(k:Nat):bD rk (kas_rev p (m - (q+1)) m) k=bD rk p k:=by
 rw[o7 hs];split
 ·rename_i hk;have h0:=hf.1;rw[hf.2 k hk.1 hk.2,hf.2 _ (by omega) (by omega)]
 ·rfl
def tq {p G:Array Nat}{m:Nat}(e:∀k,bD rk G k=bD rk p k)(h:o8 rk p m):o8 rk G m:=λi j h1 h2=>by rw[e,e];exact h i j h1 h2
def lv (p:Array Nat){m:Nat}(h:1<=m):zJ rk p m 0:=⟨h,λk h1 h2=>by
 have:k=m - 1:=by omega
 rw[this]⟩
theorem je {r:Nat}(hr:r<=n):∀(f:Nat)(p:Array Nat)(m q:Nat),km n p->r - m=f->1<=m->m<=r->o8 rk p m->zJ rk p m q->∃G M U,Run n (mR rk) (kas_desc f p m q) (G,M,U)/\km n G/\m<=M/\M<=r/\o8 rk G M/\zJ rk G M U
 |0,p,m,q,h,hf,h1,hm,hd,hq=>⟨p,m,q,.ret _,h,vT _,hm,hd,hq⟩
 |f+1,p,m,q,h,hf,h1,hm,hd,hq=>by
  have a1:=h.lt (k:=m) (by omega);have a2:=h.lt (k:=m - 1) (by omega);have step:∀G:Array Nat,(∀k,bD rk G k=bD rk p k)->bD rk p m<=bD rk p (m - 1)->o8 rk G (m+1):=λG e CL i j hij hj=>by
   rw[e,e];by_cases z:j=m
   ·subst z;by_cases z2:i=j
    ·subst z2;exact le_refl _
    ·have:=hd i (j - 1) (by omega) (by omega);omega
   ·exact hd i j hij (by omega)
  by_cases hc:bD rk p m<bD rk p (m - 1)
  ·have O:mR rk (p.getD m 0) (p.getD (m - 1) 0)=true:=decide_eq_true hc;by_cases hq0:q > 0
   ·have e:=pU (p:=p) (by rw[h.size];omega) hq;obtain⟨G,M,U,g1,g2,g3,g4,g5,g6⟩:=je hr f (kas_rev p (m - (q+1)) m) (m+1) 0 (h.rev _ _) (by omega) (by omega) (by omega) (step _ e (by omega)) (lv _ (by omega));refine⟨G,M,U,.ask a1 a2 ?_,g2,by omega,g4,g5,g6⟩;rw[O,if_pos rfl,if_pos hq0];exact g1
   ·obtain⟨G,M,U,g1,g2,g3,g4,g5,g6⟩:=je hr f p (m+1) 0 h (by omega) (by omega) (by omega) (step _ (λ_=>rfl) (by omega)) (lv _ (by omega));refine⟨G,M,U,.ask a1 a2 ?_,g2,by omega,g4,g5,g6⟩;rw[O,if_pos rfl,if_neg hq0];exact g1
  ·have O:mR rk (p.getD m 0) (p.getD (m - 1) 0)=false:=decide_eq_false hc;by_cases hc2:bD rk p (m - 1)<bD rk p m
   ·have T:mR rk (p.getD (m - 1) 0) (p.getD m 0)=true:=decide_eq_true hc2;refine⟨p,m,q,.ask a1 a2 ?_,h,vT _,hm,hd,hq⟩;rw[O,if_neg uY];refine .ask a2 a1 ?_;rw[T,if_pos rfl];exact .ret _
   ·have T:mR rk (p.getD (m - 1) 0) (p.getD m 0)=false:=decide_eq_false hc2;have he:bD rk p m=bD rk p (m - 1):=by omega
    obtain⟨G,M,U,g1,g2,g3,g4,g5,g6⟩:=je hr f p (m+1) (q+1) h (by omega) (by omega) (by omega) (step _ (λ_=>rfl) (by omega)) ⟨by have:=hq.1;omega,λk k1 k2=>by
     rw[Nat.add_sub_cancel];by_cases z:k=m
     ·rw[z]
     ·rw[hq.2 k (by omega) (by omega),he]⟩
    refine⟨G,M,U,.ask a1 a2 ?_,g2,by omega,g4,g5,g6⟩;rw[O,if_neg uY];refine .ask a2 a1 ?_;rw[T,if_neg uY];exact g1
def pV {r:Nat}(O:r<=n){p:Array Nat}(h:km n p){m:Nat}(h1:1<=m)(hm:m<=r)(hd:o8 rk p m):∃G M,Run n (mR rk) (kas_tail3 m r p) (G,M)/\km n M/\1<=G/\G<=r/\Up rk M G:=by
 have hu:Up rk (kas_rev p 0 m) m:=λi j T hj=>by
  rw[o7 (by rw[h.size];omega),o7 (by rw[h.size];omega),if_pos (by omega),if_pos (by omega)];exact hd _ _ (by omega) (by omega)
 obtain⟨G,U,q2,q3,q4,_⟩:=o9 (h.rev 0 m) O (r - m) m rfl h1 hm hu;exact⟨G,_,U.bind (.ret _),h.rev 0 m,by omega,q3,q4⟩
def pW {r:Nat}(O:r<=n){p:Array Nat}(h:km n p){m:Nat}(hm:m+1<=r)(hd:o8 rk p (m+1)):∃G M,Run n (mR rk) (kas_descPart m r p) (G,M)/\km n M/\1<=G/\G<=r/\Up rk M G:=by
 obtain⟨p1,m1,U,g1,T,g3,g4,g5,g6⟩:=je O (r - (m+1)) p (m+1) 0 h rfl (by omega) hm hd (lv _ (by omega));by_cases hq:U > 0
 ·obtain⟨G,M,k1,k2,k3,k4,k5⟩:=pV O (T.rev (m1 - (U+1)) m1) (m:=m1) (by omega) g4 (tq (pU (by rw[T.size];omega) g6) g5);exact⟨G,M,g1.bind (by dsimp only;rw[if_pos hq];exact k1),k2,k3,k4,k5⟩
 ·obtain⟨G,M,k1,k2,k3,k4,k5⟩:=pV O T (m:=m1) (by omega) g4 g5;exact⟨G,M,g1.bind (by dsimp only;rw[if_neg hq];exact k1),k2,k3,k4,k5⟩
def uH {p:Array Nat}(h:km n p)(hn:1<=n):∃M O,Run n (mR rk) (kas_count n p) (M,O)/\km n O/\1<=M/\M<=n/\Up rk O M:=by
 obtain⟨m,q1,q2,q3,q4,q5⟩:=o9 h (vT n) (n - 1) 1 rfl (vT 1) hn (Ce (rk:=rk) p);by_cases e:m=n
 ·exact⟨m,p,q1.bind (by rw[if_pos (by simp[e])];exact .ret _),h,q2,q3,q4⟩
 ·have U:=q5 (by omega);have e1:¬(m == n)=true:=by simp[e]
  by_cases T:m > 1
  ·by_cases hc:bD rk p 0<bD rk p (m - 1)
   ·refine⟨m,p,q1.bind ?_,h,q2,q3,q4⟩;rw[if_neg e1,if_pos T];refine .ask (h.lt (by omega)) (h.lt (by omega)) ?_;have:mR rk (p.getD 0 0) (p.getD (m - 1) 0)=true:=decide_eq_true hc;rw[this,if_pos rfl];exact .ret _
   ·have G:∀k,k<m->bD rk p k=bD rk p 0:=λk hk=>by
     have z1:=q4 0 k (by omega) hk;have z2:=q4 k (m - 1) (by omega) (by omega);omega
    have er:∀k,bD rk (kas_rev p 0 m) k=bD rk p k:=λk=>by
     rw[o7 (by rw[h.size];omega)];split
     ·rename_i z;rw[G _ (by omega),G k z.2]
     ·rfl
    have hd:o8 rk p (m+1):=λi j hij hj=>by
     by_cases z:j=m
     ·subst z;by_cases z2:i=j
      ·subst z2;exact le_refl _
      ·rw[G i (by omega)];rw[G (j - 1) (by omega)]at U;omega
     ·rw[G i (by omega),G j (by omega)];exact le_refl _
    obtain⟨M,O,k1,k2,k3,k4,k5⟩:=pW (vT n) (h.rev 0 m) (m:=m) (by omega) (tq er hd);refine⟨M,O,q1.bind ?_,k2,k3,k4,k5⟩;rw[if_neg e1,if_pos T];refine .ask (h.lt (by omega)) (h.lt (by omega)) ?_;have:mR rk (p.getD 0 0) (p.getD (m - 1) 0)=false:=decide_eq_false hc;rw[this,if_neg uY];exact k1
  ·have em:m=1:=by omega
   subst em;have hd:o8 rk p 2:=λi j hij hj=>by
    by_cases z2:i=j
    ·subst z2;exact le_refl _
    ·have:i=0:=by omega
     have:j=1:=by omega
     subst_vars;have:=U;simp at this;omega
   obtain⟨M,O,k1,k2,k3,k4,k5⟩:=pW (vT n) h (m:=1) (by omega) hd;refine⟨M,O,q1.bind ?_,k2,k3,k4,k5⟩;rw[if_neg e1,if_neg T];exact k1
theorem jE {p:Array Nat}(h:km n p){k:Nat}(hk:k<n)(hu:Up rk p k):∀(f l r:Nat),r - l<=f->l<=r->r<=k->(∀i,i<l->bD rk p i<=bD rk p k)->(∀i,r<=i->i<k->bD rk p k<bD rk p i) ->
  ∃G,Run n (mR rk) (kas_place p k f l r) G/\G<=k/\(∀i,i<G->bD rk p i<=bD rk p k)/\(∀i,G<=i->i<k->bD rk p k<bD rk p i)
 |0,l,r,hf,hl,hr,h1,h2=>⟨l,.ret l,by omega,h1,λi a b=>h2 i (by omega) b⟩
 |f+1,l,r,hf,hl,hr,h1,h2=>by
  by_cases M:l ≥ r
  ·refine⟨l,?_,by omega,h1,λi a b=>h2 i (by omega) b⟩;unfold kas_place;rw[if_pos M];exact .ret l
  ·by_cases hc:bD rk p k<bD rk p ((l+r) / 2)
   ·obtain⟨G,O,T,U,q4⟩:=jE h hk hu f l ((l+r) / 2) (by omega) (by omega) (by omega) h1 λi a b=>by
     have:=hu ((l+r) / 2) i a b;omega
    refine⟨G,?_,T,U,q4⟩;unfold kas_place;rw[if_neg M];refine .ask (h.lt (by omega)) (h.lt (by omega)) ?_;have:mR rk (p.getD k 0) (p.getD ((l+r) / 2) 0)=true:=decide_eq_true hc;rw[this,if_pos rfl];exact O
   ·obtain⟨G,O,T,U,q4⟩:=jE h hk hu f ((l+r) / 2+1) r (by omega) (by omega) hr (λi a=>by
     have:=hu i ((l+r) / 2) (by omega) (by omega);omega) h2
    refine⟨G,?_,T,U,q4⟩;unfold kas_place;rw[if_neg M];refine .ask (h.lt (by omega)) (h.lt (by omega)) ?_;have:mR rk (p.getD k 0) (p.getD ((l+r) / 2) 0)=false:=decide_eq_false hc;rw[this,if_neg uY];exact O
theorem tr:∀(f:Nat)(p:Array Nat)(k:Nat),km n p->n - k=f->k<=n->Up rk p k->∃G,Run n (mR rk) (kas_bin f p k) G/\km n G/\Up rk G n
 |0,p,k,h,hf,hk,hu=>⟨p,.ret p,h,(show k=n by omega) ▸ hu⟩
 |f+1,p,k,h,hf,hk,hu=>by
  have M:k<n:=by omega
  obtain⟨l,q1,q2,q3,q4⟩:=jE h M hu k 0 k (by omega) (by omega) (vT _) (λi z=>by omega) (λi a b=>by omega);have hsz:k<p.size:=by rw[h.size];exact M
  have T:Up rk (bubble p k (k - l)) (k+1):=λi j U hj=>by
   rw[xn hsz (by omega),xn hsz (by omega)];have e:k - (k - l)=l:=by omega
   rw[e];by_cases i1:i=l
   ·rw[if_pos i1];by_cases O:j=l
    ·rw[if_pos O];exact le_refl _
    ·rw[if_neg O,if_pos (by omega)];have:=q4 (j - 1) (by omega) (by omega);omega
   ·rw[if_neg i1];by_cases i2:l<i/\i<=k
    ·rw[if_pos i2,if_neg (by omega),if_pos (by omega)];exact hu _ _ (by omega) (by omega)
    ·rw[if_neg i2];by_cases O:j=l
     ·rw[if_pos O];exact q3 i (by omega)
     ·rw[if_neg O];by_cases j2:l<j/\j<=k
      ·rw[if_pos j2];exact hu _ _ (by omega) (by omega)
      ·rw[if_neg j2];exact hu _ _ U (by omega)
  obtain⟨G,k1,k2,k3⟩:=tr f (bubble p k (k - l)) (k+1) (h.bub _ _) (by omega) (by omega) T;exact⟨G,q1.bind k1,k2,k3⟩
def xo (hn:1<=n):∃p,Run n (mR rk) (kas_sort n) p/\km n p/\Up rk p n:=by
 have h0:km n (List.toArray (List.range n)):=⟨by simp,by simp⟩;obtain⟨m,p,M,O,q3,q4,T⟩:=uH (rk:=rk) h0 hn;by_cases e:m<n
 ·have G:max m 1=m:=by omega
  obtain⟨U,k1,k2,k3⟩:=tr (n - max m 1) p (max m 1) O rfl (by omega) (by rw[G];exact T);exact⟨U,M.bind (by dsimp only;rw[if_pos e];exact k1),k2,k3⟩
 ·have:m=n:=by omega
  subst this;exact⟨p,M.bind (by dsimp only;rw[if_neg e];exact .ret _),O,T⟩
end
def hJ {a b c:LI}(h:a<b)(k:b<c):a<c:=lt_trans h k
def uI {a b c:LI}(h:¬b<a)(k:¬c<b):¬c<a:=not_lt.mpr (le_trans (not_lt.mp h) (not_lt.mp k))
def xp {a b:LI}(h:¬b<a)(k:¬a<b):a=b:=le_antisymm (not_lt.mp h) (not_lt.mp k)
section
variable {α:Type}(f:α->LI)
def yF (a b:α):Prop:=¬f b<f a
noncomputable def rJ (x:α):List α->List α
 |[]=>[x]
 |y::r=>if f y<f x then y::rJ x r else x::y::r
def jY (l:List α):List α:=l.foldr (rJ f) []
theorem jF (x:α):∀l,(rJ f x l).Perm (x::l)
 |[]=>List.Perm.refl _
 |y::r=>by
  unfold rJ;split
  ·exact((jF x r).cons y).trans (List.Perm.swap x y r)
  ·exact List.Perm.refl _
theorem gs:∀l,(jY f l).Perm l
 |[]=>List.Perm.refl _
 |x::l=>(jF f x (jY f l)).trans ((gs l).cons x)
theorem mS (x:α):∀l,l.Pairwise (yF f)->(rJ f x l).Pairwise (yF f)
 |[],_=>by simp[rJ]
 |y::r,h=>by
  obtain⟨h1,h2⟩:=pairwise_cons.mp h;unfold rJ;split
  ·rename_i hl;refine pairwise_cons.mpr ⟨λz hz=>?_,mS x r h2⟩;rcases vP ((jF f x r).mem_iff.mp hz)with rfl|hz
   ·exact λk=>lt_irrefl _ (hJ hl k)
   ·exact h1 z hz
  ·rename_i hl;refine pairwise_cons.mpr ⟨λz hz=>?_,h⟩;rcases vP hz with rfl|hz
   ·exact hl
   ·exact uI hl (h1 z hz)
theorem lw:∀l,(jY f l).Pairwise (yF f)
 |[]=>List.Pairwise.nil
 |x::l=>mS f x _ (lw l)
theorem mT:∀(l1 l2:List α),(∀x∈l1,∀y∈l1,f x=f y->x=y)->l1.Perm l2->l1.Pairwise (yF f)->l2.Pairwise (yF f)->l1=l2
 |[],l2,_,p,_,_=>(nil_perm.mp p).symm
 |x::G,[],_,p,_,_=>absurd p.length_eq (by simp)
 |x::G,y::T,hi,p,h1,h2=>by
  have hy:y∈x::G:=p.mem_iff.mpr (mX ..);have M:yF f x y:=by
   rcases vP hy with z|z
   ·rw[z];exact lt_irrefl _
   ·exact(pairwise_cons.mp h1).1 y z
  have O:yF f y x:=by
   rcases vP (p.mem_iff.mp (mX ..))with z|z
   ·rw[z];exact lt_irrefl _
   ·exact(pairwise_cons.mp h2).1 x z
  have e:x=y:=hi x (mX ..) y hy (xp M O);subst e;rw[mT G T (λa ha b hb=>hi a (mZ _ ha) b (mZ _ hb)) (List.Perm.cons_inv p) (pairwise_cons.mp h1).2 (pairwise_cons.mp h2).2]
theorem pX (hi:∀x∈l,∀y∈l,f x=f y->x=y)(p:l'.Perm l)(h:l'.Pairwise (yF f)):l'=jY f l :=
 mT f _ _ (λx hx y hy=>hi x (p.mem_iff.mp hx) y (p.mem_iff.mp hy)) (p.trans (gs f l).symm) h (lw f l)
end
theorem iA {α:Type}{p q:α->Bool}(h:∀x,p x=true->q x=true):∀l:List α,(l.filter p).length<=(l.filter q).length
 |[]=>vT _
 |x::l=>by
  have G:=iA h l;rw[filter_cons,filter_cons];by_cases z:p x=true
  ·rw[if_pos z,if_pos (h x z)];simp only[vE];omega
  ·rw[if_neg z];split
   ·simp only[vE];omega
   ·exact G
noncomputable def jf (cs:List LI)(c:LI):Int:=((cs.filter λx=>decide (x<c)).length:Nat)
def zK {cs:List LI}{a b:LI}(h:¬b<a):jf cs a<=jf cs b:=by
 unfold jf;refine Int.ofNat_le.mpr (iA (λx hx=>?_) cs);rw[decide_eq_true_eq]at hx ⊢;rcases List.le_iff_lt_or_eq.mp (not_lt.mp h)with z|z
 ·exact hJ hx z
 ·rw[←z];exact hx
def tt {cs:List LI}{a b:LI}(ha:a∈cs)(h:a<b):jf cs a<jf cs b:=by
 unfold jf;apply Int.ofNat_lt.mpr;induction cs with
 |nil=>simp at ha
 |cons c cs M=>
  have G:∀l:List LI,(l.filter λx=>decide (x<a)).length<=(l.filter λx=>decide (x<b)).length:=λl=>
   iA (λx hx=>by rw[decide_eq_true_eq]at hx ⊢;exact hJ hx h) l
  rw[filter_cons,filter_cons];rcases vP ha with rfl|ha
  ·rw[if_neg (by simp[lt_irrefl]),if_pos (by simpa using h)];have:=G cs;simp only[vE];omega
  ·have:=M ha;by_cases z:c<a
   ·rw[if_pos (by simpa using z),if_pos (by simpa using hJ z h)];simp only[vE];omega
   ·rw[if_neg (by simpa using z)];split
    ·simp only[vE];omega
    ·exact this
def xq (ha:a∈cs):decide (jf cs a<jf cs b)=decide (a<b):=by
 by_cases h:a<b
 ·rw[decide_eq_true h,decide_eq_true (tt ha h)]
 ·rw[decide_eq_false h,decide_eq_false];have:=zK (cs:=cs) h;omega
inductive At where
 |i (n:Int)
 |s (z:Str)
noncomputable def Cf:At->LI
 |.i n=>[n]
 |.s z=>z.cps.toList.map (λ(c:Nat)=>(c:Int)+1)++[0]
def fx (xs:List At):LI:=xs.flatMap Cf
noncomputable def cZ:List At->List At->Option Bool
 |[],ys=>some (!ys.isEmpty)
 |_::_,[]=>some false
 |.i a::xs,.i b::ys=>if a=b then cZ xs ys else some (decide (a<b))
 |.s a::xs,.s b::ys=>if a=b then cZ xs ys else some (decide (a.cps.toList<b.cps.toList))
 |_::_,_::_=>none
theorem oB:∀(a b:LN)(r G:LI),(a.map (λ(c:Nat)=>(c:Int)+1)++0::r)<(b.map (λ(c:Nat)=>(c:Int)+1)++0::G)↔a<b∨(a=b/\r<G)
 |[],[],r,G=>by simp[cons_lt_cons_iff]
 |[],y::b,r,G=>by simp[cons_lt_cons_iff]
 |x::a,[],r,G=>by simp[cons_lt_cons_iff];omega
 |x::a,y::b,r,G=>by
  rw[uZ,uZ,List.cons_append,List.cons_append,cons_lt_cons_iff,oB a b r G,cons_lt_cons_iff];constructor
  ·rintro (h|⟨h,k|⟨k1,k2⟩⟩)
   ·exact .inl (.inl (by omega))
   ·exact .inl (.inr ⟨by omega,k⟩)
   ·exact .inr ⟨by rw[k1,show x=y by omega],k2⟩
  ·rintro ((h|⟨h,k⟩)|⟨h,k⟩)
   ·exact .inl (by omega)
   ·exact .inr ⟨by omega,.inl k⟩
   ·injection h with h1 h2;exact .inr ⟨by omega,.inr ⟨h2,k⟩⟩
def fX (x:At)(xs:List At):fx (x::xs)=Cf x++fx xs:=by unfold fx;rw[List.flatMap_cons]
def Cg (x:At):Cf x≠[]:=by cases x<;>simp[Cf]
def tu {a b:Str}:a.cps.toList=b.cps.toList↔a=b:=by
 constructor
 ·intro h;obtain⟨a⟩:=a;obtain⟨b⟩:=b;have:a=b:=toList_inj.mp h;rw[this]
 ·rintro rfl;rfl
theorem oC:∀(xs ys:List At)(b:Bool),cZ xs ys=some b->b=decide (fx xs<fx ys)
 |[],[],b,h=>by simp[cZ]at h;subst h;simp[fx]
 |[],y::ys,b,h=>by
  simp[cZ]at h;subst h;rw[fX];cases e:Cf y with
  |nil=>exact absurd e (Cg y)
  |cons c cs=>simp[fx]
 |x::xs,[],b,h=>by simp[cZ]at h;subst h;simp[fx]
 |.i a::xs,.i c::ys,b,h=>by
  rw[cZ]at h;rw[fX,fX];show b=decide (a::fx xs<c::fx ys);split at h
  ·rename_i e;subst e;rw[oC xs ys b h];exact decide_eq_decide.mpr (by rw[cons_lt_cons_iff];simp)
  ·rename_i e;cases h
   exact decide_eq_decide.mpr (by rw[cons_lt_cons_iff];simp[e])
 |.s a::xs,.s c::ys,b,h=>by
  rw[cZ]at h;rw[fX,fX];have G:∀(z:Str)(r:LI),Cf (.s z)++r=z.cps.toList.map (λ(c:Nat)=>(c:Int)+1)++0::r:=λz r=>by simp[Cf]
  rw[G,G];split at h
  ·rename_i e;subst e;rw[oC xs ys b h];exact decide_eq_decide.mpr (by rw[oB];exact⟨λz=>.inr ⟨rfl,z⟩,λz=>z.elim (λq=>absurd q (lt_irrefl _)) (·.2)⟩)
  ·rename_i e;cases h
   exact decide_eq_decide.mpr (by rw[oB,tu];exact⟨.inl,λz=>z.elim id λq=>absurd q.1 e⟩)
 |.i _::_,.s _::_,b,h=>by simp[cZ]at h
 |.s _::_,.i _::_,b,h=>by simp[cZ]at h
theorem rK:∀(xs ys:List At),cZ xs ys=some false->cZ ys xs=some false->xs=ys
 |[],[],_,_=>rfl
 |[],y::ys,h,_=>by simp[cZ]at h
 |x::xs,[],_,h=>by simp[cZ]at h
 |.i a::xs,.i c::ys,h,k=>by
  rw[cZ]at h k;by_cases e:a=c
  ·subst e;rw[if_pos rfl]at h k;rw[rK xs ys h k]
  ·rw[if_neg e]at h;rw[if_neg (Ne.symm e)]at k;simp at h k;omega
 |.s a::xs,.s c::ys,h,k=>by
  rw[cZ]at h k;by_cases e:a=c
  ·subst e;rw[if_pos rfl]at h k;rw[rK xs ys h k]
  ·rw[if_neg e]at h;rw[if_neg (Ne.symm e)]at k;simp only[Option.some.injEq,decide_eq_false_iff_not]at h k;exact absurd (tu.mp (le_antisymm (not_lt.mp k) (not_lt.mp h))) e
 |.i _::_,.s _::_,h,_=>by simp[cZ]at h
 |.s _::_,.i _::_,h,_=>by simp[cZ]at h
noncomputable def jZ (ks:List (List At)):Bool:=ks.all λx=>ks.all λy=>(cZ x y).isSome
def jG (h:jZ ks=true)(hx:x∈ks)(hy:y∈ks):cZ x y=some (decide (fx x<fx y)):=by
 have:=uS (uS h x hx) y hy;obtain⟨b,e⟩:=isSome_iff_exists.mp this;rw[e,oC _ _ _ e]
def uJ (h:jZ ks=true)(hx:x∈ks)(hy:y∈ks)(e:fx x=fx y):x=y:=by
 refine rK _ _ ?_ ?_
 ·rw[jG h hx hy,e,decide_eq_false (lt_irrefl _)]
 ·rw[jG h hy hx,e,decide_eq_false (lt_irrefl _)]
def Ei:At->Value->Prop
 |.i n,v=>∃t,v=.int n t
 |.s z,v=>∃t,v=.str z t
def iB (h:Heap)(xs:List At)(v:Value):Prop:=∃a o its n,v=.ref a/\h.get? a=some o/\o.cls=.type "tuple"/\o.data=.seq its n/\Paired Ei xs its.toList
def iB.keep (x:iB h xs v)(k:∀a o,o.cls=.type "tuple"->h.get? a=some o->h'.get? a=some o):iB h' xs v:=by
 obtain⟨a,o,its,n,e,G,hc,r⟩:=x;exact⟨a,o,its,n,e,k a o hc G,hc,r⟩
noncomputable def eQ (ks:List (List At)):Bool:=ks.all (λx=>match x with|.i _::_=>true|_=>false) || ks.all (λx=>match x with|.s _::_=>true|_=>false)
section
variable {prog:Program}{w:World}{A:Around}{E:QV}{s:Shared}
theorem lx:∀(xs ys:List At)(its G:LU)(i:Nat),Paired Ei xs its->Paired Ei ys G->cZ xs ys=some b->se=decide (xs.length<ys.length)->Q b s->KatLex prog w A true se Q (its.zip G) i s
 |[],ys,_,G,i,.nil,T,h,hf,q=>by
  rw[List.zip_nil_left];refine kat_nil ?_;cases ys with
  |nil=>simp[cZ]at h;subst h;rw[hf];exact q
  |cons y ys=>simp[cZ]at h;subst h;rw[hf];simpa using q
 |x::xs,[],_,_,i,_,.nil,h,hf,q=>by
  rw[List.zip_nil_right];refine kat_nil ?_;simp[cZ]at h;subst h;rw[hf];simpa using q
 |.i a::xs,.i c::ys,_,_,i,.cons U M,.cons T O,h,hf,q=>by
  obtain⟨t,rfl⟩:=U;obtain⟨u,rfl⟩:=T;rw[zip_cons_cons];refine kat_cons (wpAny_eqBool_int ?_);rw[cZ]at h;by_cases e:a=c
  ·rw[if_pos e]at h;rw[show(a == c)=true by simp[e]];exact kat_yes (lx xs ys _ _ (i+1) M O h (by rw[hf];simp) q)
  ·rw[if_neg e]at h;cases h
   rw[show(a == c)=false by simp[e]];refine kat_no ?_;cases hb:(true && i == 0) with
   |true=>exact oneLt_int q
   |false=>exact kat_one _ _ (PyProof.Rows.lt_int q)
 |.s a::xs,.s c::ys,_,_,i,.cons U M,.cons T O,h,hf,q=>by
  obtain⟨t,rfl⟩:=U;obtain⟨u,rfl⟩:=T;rw[zip_cons_cons];refine kat_cons (wpAny_eqBool_str ?_);rw[cZ]at h;by_cases e:a=c
  ·rw[if_pos e]at h;rw[decide_eq_true e];exact kat_yes (lx xs ys _ _ (i+1) M O h (by rw[hf];simp) q)
  ·rw[if_neg e]at h;cases h
   rw[decide_eq_false e];refine kat_no ?_;cases hb:(true && i == 0) with
   |true=>exact oneLt_str q
   |false=>exact kat_one _ _ (PySem.P.lt_str q)
 |.i _::_,.s _::_,_,_,_,_,_,h,_,_=>by simp[cZ]at h
 |.s _::_,.i _::_,_,_,_,_,_,h,_,_=>by simp[cZ]at h
theorem gt {α O:Type}{F:α->O->Prop}:∀ {G:List α}{M:List O},Paired F G M->G.length=M.length
 |_,_,.nil=>rfl
 |_,_,.cons _ t=>by simp[gt t]
def Ci {Q:Bool->Shared->Prop}{xs ys:List At}{x y:Value}{b:Bool}(hx:iB s.heap xs x)(hy:iB s.heap ys y)(h:cZ xs ys=some b)(q:Q b s):wpAny (model prog w) A (keyLt' (tuples' true) x y) Q E s:=by
 obtain⟨a,o,its,n,rfl,T,_,hd,r⟩:=hx;obtain⟨U,o',its',n',rfl,G,_,M,O⟩:=hy;refine kat_lt T hd G M (lx xs ys _ _ 0 r O h ?_ q);rw[←vG,←vG,gt r,gt O]
theorem ka:∀ {ks:List (List At)}{vs:LU},Paired (iB h) ks vs->(∀k∈ks,k≠[])->∃fs,KatTups h vs fs/\fs.length=ks.length/\∀v∈fs,∃k r,(k::r)∈ks/\Ei k v
 |_,_,.nil,_=>⟨[],trivial,rfl,by simp⟩
 |k::ks,_,.cons x t,G=>by
  obtain⟨fs,h1,h2,h3⟩:=ka t λz hz=>G z (mZ _ hz);obtain⟨a,o,its,n,rfl,T,hc,hd,r⟩:=x;cases M:its.toList with
  |nil=>
   rw[M]at r;cases r
   exact absurd rfl (G [] (mX ..))
  |cons v vs=>
   rw[M]at r;obtain⟨p,O⟩:∃p,its[0]? = some v:=⟨(),by rw[←getElem?_toList,M];rfl⟩;cases r with
   |cons q qs=>
    rename_i k0 U;refine⟨v::fs,KatTups.cons T hc hd O h1,by simp[h2],λu hu=>?_⟩;rcases vP hu with rfl|hu
    ·exact⟨k0,U,mX ..,q⟩
    ·obtain⟨k1,O,m1,m2⟩:=h3 u hu;exact⟨k1,O,mZ _ m1,m2⟩
def xr (O:Paired (iB s.heap) ks vs)(hf:eQ ks=true)(hn:0<ks.length)(q:Q (tuples' true) s):wpAny (model prog w) A (keyKind' vs.toArray) Q E s:=by
 have G:∀k∈ks,k≠[]:=λk hk z=>by
  subst z;unfold eQ at hf;rw[Bool.or_eq_true]at hf;rcases hf with hf|hf
  ·have:=uS hf [] hk;simp at this
  ·have:=uS hf [] hk;simp at this
 obtain⟨fs,h1,h2,h3⟩:=ka O G;unfold eQ at hf;rw[Bool.or_eq_true]at hf;rcases hf with hf|hf
 ·refine kat_kind (T:=.type "int") h1 (by omega) (λv M=>?_) (by decide) q;obtain⟨k,r,m,z⟩:=h3 v M;have:=uS hf _ m;cases k with
  |i n=>obtain⟨t,rfl⟩:=z;exact .now
  |s U=>simp at this
 ·refine kat_kind (T:=.type "str") h1 (by omega) (λv M=>?_) (by decide) q;obtain⟨k,r,m,z⟩:=h3 v M;have:=uS hf _ m;cases k with
  |s U=>obtain⟨t,rfl⟩:=z;exact .now
  |i n=>simp at this
end
section
variable {prog:Program}{w:World}{A:Around}{E:QV}{s:Shared}
theorem iC {α O:Type}{F:α->O->Prop}(d:α)(e:O):∀ {G:List α}{M:List O},Paired F G M->∀ {i:Nat},i<G.length->F (G.getD i d) (M.getD i e)
 |_,_,.cons r t,0,_=>r
 |_,_,.cons r t,i+1,h=>by
  simp only[getD_cons_succ];exact iC d e t (by simpa using h)
 |_,_,.nil,i,h=>by simp at h
def AL (ks:List (List At))(i:Nat):Int:=jf (ks.map fx) (fx (ks.getD i []))
def zL {ks:List (List At)}{vs:LU}(hc:jZ ks=true)(G:Paired (iB s.heap) ks vs):∀(i j:Nat)(C:Bool->Shared->Prop)(s1:Shared),i<ks.length->j<ks.length->s1=s->(∀M,M=s->C (mR (AL ks) i j) M)->kas_ask prog w A (tuples' true) vs i j C s1:=by
 intro i j C s1 hi hj e T;subst e;unfold kas_ask;have O:ks.getD i []∈ks:=by rw[vF,vU hi];exact getElem_mem hi
 have U:ks.getD j []∈ks:=by rw[vF,vU hj];exact getElem_mem hj
 refine Ci (iC [] Value.none G hi) (iC [] Value.none G hj) (jG hc O U) ?_;have:=T s1 rfl;unfold mR AL at this;rw[xq (mem_map.mpr ⟨_,O,rfl⟩)]at this;exact this
def uK (ho:s.heap.get? a=some (seqObj "list" vs.toArray n))(hk:Paired (iB s.heap) ks vs)(hc:jZ ks=true)(hf:eQ ks=true)(Hj:vs.length<64)
  (h:∀p:Array Nat,km vs.length p->Up (AL ks) p vs.length->P (.done (.ret .none)) { s with heap:=sortedHeap s.heap a vs (List.toArray (p.toList.map λi=>vs.getD i Value.none)) }):
  wpAny (model prog w) A (Builtin.«list.sort» ⟨[.ref a],[]⟩) P E s:=by
 have ha:=vX ho;have lZ:ks.length=vs.length:=gt hk;obtain⟨e1,Dj⟩:∃e1,(s.heap.update a (Obj.mapSeq λ_=>#[])).get? a=some (seqObj "list" #[] e1):=⟨_,get?_update_seq ho (λ_=>#[])⟩;let M:Heap:=((s.heap.update a (Obj.mapSeq λ_=>#[])).push (seqObj "tuple" vs.toArray 0)).push (seqObj "list" #[] 0);have Hl:∀b u,b≠a->s.heap.get? b=some u->M.get? b=some u:=λb u hb q=>
  vZ _ (vZ _ ((Heap.get?_update_ne _ _ _ _ hb).trans q))
 have ID:M.get? a=some (seqObj "list" #[] e1):=vZ _ (vZ _ Dj);have IE:Paired (iB M) ks vs:=L2.Paired.mapP hk λk v x=>x.keep λb u Dk q=>Hl b u (λz=>by
  subst z;rw[ho]at q;cases q;injection Dk with z;exact absurd z (by decide)) q
 rw[list_sort_plain];refine wX (listItems_at ho rfl (wX (listUpdate_at ho rfl (wX (seqEpoch_at Dj rfl (wX (wpAny_newTuple (wX (wpAny_newList (wpAny_holding ?_))) (by show vs.length<=sizeLine;rw[sizeLine_eq];omega))))))));show wpAny (model prog w) A _ P E { s with heap:=M };dsimp only;have U:∀(st:SortSt)(p:Array Nat),arrOf st=p.map (kas_item (vs.toArray.zip vs.toArray))->failedOf st=none->km vs.length p->Up (AL ks) p vs.length ->
   wpAny (model prog w) A (do
    let O:=(←seqEpoch a) != e1
    Builtin.List.listUpdate (.ref a) λ_=>(arrOf st).map (·.2)
    if let some e:=failedOf st then rule "list.sort.comparison-raised";throw e
    if O then rule "list.sort.modified";raiseError "ValueError" "list modified during sort"
    ret .none) P E { s with heap:=M }:=λst p ea ef ap up=>by
  have eo:(arrOf st).map (·.2)=List.toArray (p.toList.map λi=>vs.getD i Value.none):=kat_snds rfl ea;refine wX (seqEpoch_at ID rfl ?_);refine wX (listUpdate_at ID rfl ?_ (hsz2:=by rw[eo];simp only[vH,vI,vG,ap.size,sizeLine_eq];omega));rw[ef];simp only[bne_self_eq_false,uW,if_false];rw[eo];exact wY (h p ap up)
 by_cases h2:vs.toArray.size<2
 ·rw[if_pos h2,if_pos h2];refine wX (wY ?_);rw[StateT.run_pure];refine wX (wY ?_);have Lg:vs.length<2:=by simpa using h2
  refine U _ (List.toArray (List.range vs.length)) ?_ rfl ⟨by simp,by simp⟩ ?_
  ·show vs.toArray.zip vs.toArray=_;have:=kas_range (vs.toArray.zip vs.toArray);rw[show(vs.toArray.zip vs.toArray).size=vs.length by simp]at this;exact this.symm
  ·intro i j hij hj;have:i=j:=by omega
   subst this;exact le_refl _
 ·rw[if_neg h2,if_neg h2];have EA:2<=vs.length:=by simp at h2;omega
  refine wX (xr (s:={ s with heap:=M }) IE hf (by omega) ?_);obtain⟨p,r1,r2,r3⟩:=xo (n:=vs.length) (rk:=AL ks) (by omega);refine wX (wpAny_mono (kat_run (E:=E) (ks:=vs) (vs:=vs) (κ:=tuples' true) (s:={ s with heap:=M }) (Q:=λT s'=>s'={ s with heap:=M }/\arrOf T=p.map (kas_item (vs.toArray.zip vs.toArray))/\failedOf T=none)
   (G:=λp' s'=>p'=p/\s'={ s with heap:=M }) rfl EA Hj (λp' T s' _ e2 e3 e4=>by
    obtain⟨rfl,rfl⟩:=e4;exact⟨rfl,e2,e3⟩) (Run.wp (λs'=>s'={ s with heap:=M }) (λi j C s1 hi hj e hC=>zL (s:={ s with heap:=M }) hc IE i j C s1 (by omega) (by omega) e hC) r1 rfl λs' e=>⟨rfl,e⟩)) (λr s' hr=>?_) λ_ _ z=>z)
  obtain⟨⟨⟩,T⟩:=r;obtain⟨rfl,e2,e3⟩:=hr;exact U T p e2 e3 r2 r3
def pY (hl:s.heap.IsList l vs.toArray)(hk:Paired (iB s.heap) ks vs)(hc:jZ ks=true)(hf:eQ ks=true)(M:vs.length<64)
  (h:∀p:Array Nat,km vs.length p->Up (AL ks) p vs.length->Q (.ref (s.heap.objs.size+1)) { s with heap:=sortedAll s.heap vs (List.toArray (p.toList.map λi=>vs.getD i Value.none)) }):
  wpAny (model prog w) A (call (.builtin "sorted") [.ref l]) Q E s:=by
 let h1:Heap:=(s.heap.push (seqObj "list" #[] 0)).update s.heap.objs.size (Obj.mapSeq (· ++ vs.toArray));have hsz:h1.objs.size=s.heap.objs.size+1:=by show(Heap.update _ _ _).objs.size=_;rw[Heap.size_update,size_push']
 let h2:Heap:=h1.push (seqObj "list" vs.toArray 0);have G:h2.get? (s.heap.objs.size+1)=some (seqObj "list" vs.toArray 0):=by rw[←hsz];exact vY _ rfl
 have O:Paired (iB h2) ks vs:=L2.Paired.mapP hk λk v x=>x.keep λb u _ q=>
  vZ _ ((Heap.get?_update_ne _ _ _ _ (vS (vX q))).trans (vZ _ q))
 refine Calls.call_function_entry kind_sorted plain_sorted entry_sorted (args_sorted1 _) ?_;unfold Builtin.«sorted»;refine wX (m:=checkCount "sorted" 1 1 _) (wY (wX (collect_list hl (wX (wpAny_newList ?_)))));show wpAny _ _ _ _ _ { s with heap:=h2 };rw[show((s.heap.push (seqObj "list" #[] 0)).update s.heap.objs.size (Obj.mapSeq (· ++ vs.toArray))).objs.size=s.heap.objs.size+1 from hsz];exact wX (wpAny_holding (wpAny_call_entry slot_list_sort ⟨_,G,rfl⟩ entry_list_sort (uK G O hc hf M λp T U=>⟨_,rfl,wY ⟨_,rfl,h p T U⟩⟩) (args_list_sort _)))
end
end DL
namespace DL
open PySem PySem.Spec PySem.W PyProof.Rows L2
noncomputable def mU:D->Option At
 |.int n=>some (.i n)
 |.str z=>some (.s z)
 |_=>none
def eT:LD->Option (List At)
 |[]=>some []
 |d::ds=>(mU d).bind λa=>(eT ds).map (a :: ·)
def oD:D->Option (List At)
 |.tup es=>eT es
 |_=>none
def fY:LD->Option (List (List At))
 |[]=>some []
 |d::ds=>(oD d).bind λa=>(fY ds).map (a :: ·)
def xu (d:D):LI:=fx ((oD d).getD [])
noncomputable def gD:LD->Option LI
 |[]=>some []
 |.int n::ds=>(gD ds).map (n :: ·)
 |_::_=>none
def pZ (ns:LI):LI:=jY (λn=>[n]) ns
def dD:LD->OB
 |[.lst ds]=>match fD ds with
  |some ss=>if ss.length<64 then some (.lst ((iX ss).map .str),true)else none
  |none=>match gD ds with
   |some ns=>if ns.length<64 then some (.lst ((pZ ns).map .int),true)else none
   |none=>match fY ds with
    |some ks=>if ks.length<64/\jZ ks=true/\eQ ks=true then some (.lst (jY xu ds),true)else none
    |none=>none
 |_=>none
def uL (h:mU d=some a)(k:mU e=some a):d=e:=by
 cases d<;>simp only[mU]at h<;>cases h<;>cases e<;>simp only[mU]at k<;>cases k<;>rfl
theorem ly:∀ {ds es:LD}{G:List At},eT ds=some G->eT es=some G->ds=es
 |[],[],_,_,_=>rfl
 |[],e::es,G,h,k=>by
  simp only[eT]at h k;cases h
  obtain⟨a,_,k⟩:=oX k;obtain⟨r,_,k⟩:=oY k;cases k
 |d::ds,[],G,h,k=>by
  simp only[eT]at h k;cases k
  obtain⟨a,_,h⟩:=oX h;obtain⟨r,_,h⟩:=oY h;cases h
 |d::ds,e::es,G,h,k=>by
  simp only[eT]at h k;obtain⟨a,h1,h⟩:=oX h;obtain⟨r,h2,h⟩:=oY h;obtain⟨T,k1,k⟩:=oX k;obtain⟨U,k2,k⟩:=oY k;subst h;injection k with M O;subst M;subst O;rw[uL h1 k1,ly h2 k2]
def xw (h:oD d=some k)(h':oD e=some k):d=e:=by
 cases d<;>simp only[oD]at h<;>try (cases h;done)
 cases e<;>simp only[oD]at h'<;>try (cases h';done)
 rw[ly h h']
theorem hU:∀ {ds:LD}{ks:List (List At)},fY ds=some ks->ks.length=ds.length
 |[],_,h=>by simp only[fY]at h;cases h;rfl
 |d::ds,_,h=>by
  simp only[fY]at h;obtain⟨a,h1,h⟩:=oX h;obtain⟨r,h2,h⟩:=oY h;subst h;simp[hU h2]
theorem hV:∀ {ds:LD}{ks:List (List At)},fY ds=some ks->∀ {i:Nat},i<ds.length->oD (ds.getD i .non)=some (ks.getD i [])
 |[],_,h,i,hi=>by simp at hi
 |d::ds,_,h,0,hi=>by
  simp only[fY]at h;obtain⟨a,h1,h⟩:=oX h;obtain⟨r,h2,h⟩:=oY h;subst h;exact h1
 |d::ds,_,h,i+1,hi=>by
  simp only[fY]at h;obtain⟨a,h1,h⟩:=oX h;obtain⟨r,h2,h⟩:=oY h;subst h;simp only[getD_cons_succ];exact hV h2 (by simpa using hi)
def l5 {α:Type}(l:List α)(d:α):(List.range l.length).map (λi=>l.getD i d)=l:=by
 apply ext_getElem?;intro i;by_cases h:i<l.length
 ·simp[h]
 ·simp[h]
def rL (hk:fY ds=some ks)(hc:jZ ks=true)(O:km ds.length p)(up:Up (AL ks) p ds.length):p.toList.map (λi=>ds.getD i .non)=jY xu ds:=by
 have mem:∀x∈ds,∃k∈ks,oD x=some k:=λx hx=>by
  obtain⟨i,hi,rfl⟩:=List.mem_iff_getElem.mp hx;have:=hV hk hi;rw[vF,vU hi]at this;refine⟨_,?_,this⟩;have G:i<ks.length:=by rw[hU hk];exact hi
  rw[vF,vU G];exact getElem_mem G
 apply pX xu
 ·intro x hx y hy e;obtain⟨k,mk,ek⟩:=mem x hx;obtain⟨k',T,M⟩:=mem y hy;unfold xu at e;rw[ek,M]at e;have:=uJ hc mk T e;subst this;exact xw ek M
 ·have:=O.perm.map (λi=>ds.getD i .non);rw[l5]at this;exact this
 ·rw[List.pairwise_iff_getElem];intro i j hi hj U;have hsz:=O.size;have G:i<p.size:=by simpa using hi
  have Kr:j<p.size:=by simpa using hj
  have:=up i j (le_of_lt U) (by omega);unfold bD AL at this;have gi:p.getD i 0=p[i]:=by rw[getD_eq_getD_getElem?,getElem?_eq_getElem G];rfl
  have gj:p.getD j 0=p[j]:=by rw[getD_eq_getD_getElem?,getElem?_eq_getElem Kr];rfl
  have li:=O.lt (k:=i) (by omega);have lj:=O.lt (k:=j) (by omega);have mj:ks.getD (p.getD j 0) []∈ks:=by
   have h':p.getD j 0<ks.length:=by rw[hU hk];exact lj
   rw[vF,vU h'];exact getElem_mem h'
  have nl:¬fx (ks.getD (p.getD j 0) [])<fx (ks.getD (p.getD i 0) []):=λz=>by
   have:=tt (cs:=ks.map fx) (mem_map.mpr ⟨_,mj,rfl⟩) z;omega
  simp only[List.getElem_map,Array.getElem_toList];unfold yF xu;rw[←gi,←gj,hV hk li,hV hk lj];exact nl
section
variable {X:Cx}
theorem qa {K:Frag}{B:Hp}:∀ {vs:LV}{es:LD}{k:List At}{its:LU},aO vs its->IsL K B vs es->eT es=some k->Paired Ei k its
 |_,_,_,_,.nil,.nil,h=>by simp only[eT]at h;cases h;exact .nil
 |_,_,_,_,.cons r G,.cons i M,h=>by
  simp only[eT]at h;obtain⟨a,h1,h⟩:=oX h;obtain⟨t,h2,h⟩:=oY h;subst h;refine .cons ?_ (qa G M h2);cases i<;>simp only[mU]at h1<;>cases h1
  ·exact r
  ·exact r
theorem tw {aa:AO}{σ:St}{H:Hp}{s:Shared}(I:Inv X aa σ H s):∀ {ys:LV}{ds:LD}{ks:List (List At)}{its:LU},aO ys its->IsL X.K H ys ds->fY ds=some ks->Paired (iB s.heap) ks its
 |_,_,_,_,.nil,.nil,h=>by simp only[fY]at h;cases h;exact .nil
 |_,_,_,_,.cons r G,.cons i M,h=>by
  simp only[fY]at h;obtain⟨a,h1,h⟩:=oX h;obtain⟨t,h2,h⟩:=oY h;subst h;refine .cons ?_ (tw I G M h2);cases i<;>simp only[oD]at h1<;>try (cases h1;done)
  rename_i hq hl;cases r
  obtain⟨its',O,⟨o,T,hc,n,hd⟩,_⟩:=I.tuple hq;exact⟨_,o,_,n,rfl,T,hc,hd,by simpa using qa O hl h1⟩
theorem tx {K:Frag}{B:Hp}:∀ {vs:LV}{ds:LD},IsL K B vs ds->∀ {i:Nat},i<ds.length->Is K B (vs.getD i .non) (ds.getD i .non)
 |_,_,.cons h _,0,_=>h
 |_,_,.cons _ t,i+1,hi=>by
  simp only[getD_cons_succ];exact tx t (by simpa using hi)
 |_,_,.nil,i,hi=>by simp at hi
theorem qc:∀ {vs:LV}{us:LU},aO vs us->∀ {i:Nat},i<vs.length->aP (vs.getD i .non) (us.getD i Value.none)
 |_,_,.cons h _,0,_=>h
 |_,_,.cons _ t,i+1,hi=>by
  simp only[getD_cons_succ];exact qc t (by simpa using hi)
 |_,_,.nil,i,hi=>by simp at hi
theorem qd {K:Frag}{B:Hp}{vs:LV}{ds:LD}(h:IsL K B vs ds):∀(l:LN),(∀i∈l,i<ds.length)->IsL K B (l.map λi=>vs.getD i .non) (l.map λi=>ds.getD i .non)
 |[],_=>.nil
 |i::l,hl=>.cons (tx h (hl i (mX ..))) (qd h l λj hj=>hl j (mZ _ hj))
theorem mV (h:aO vs us):∀(l:LN),(∀i∈l,i<vs.length)->aO (l.map λi=>vs.getD i .non) (l.map λi=>us.getD i Value.none)
 |[],_=>.nil
 |i::l,hl=>.cons (qc h (hl i (mX ..))) (mV h l λj hj=>hl j (mZ _ hj))
end
section
variable {X:Cx}
theorem t6 {K:Frag}{B:Hp}:∀ {vs:LV}{ds:LD}{ns:LI}{its:LU},aO vs its->IsL K B vs ds->gD ds=some ns->IntsAre its ns
 |_,_,_,_,.nil,.nil,h=>by simp only[gD]at h;cases h;exact .nil
 |_,_,_,_,.cons r G,.cons i M,h=>by
  cases i<;>simp only[gD]at h<;>try (cases h;done)
  obtain⟨t,h2,h⟩:=oY h;subst h;obtain⟨u,rfl⟩:=r;exact .cons _ u (t6 G M h2)
theorem mW:∀ {its:LU}{G:LS},StrsAre its G->aO (G.map V.str) its
 |_,_,.nil=>.nil
 |_,_,.cons x t r=>.cons ⟨t,rfl⟩ (mW r)
theorem fO:∀ {its:LU}{G:LI},IntsAre its G->aO (G.map V.int) its
 |_,_,.nil=>.nil
 |_,_,.cons x t r=>.cons ⟨t,rfl⟩ (fO r)
theorem qe {K:Frag}{N:Hp}:∀(G:LI),IsL K N (G.map V.int) (G.map D.int)
 |[]=>.nil
 |z::G=>.cons (.int z) (qe G)
def xx (p:l'.Perm l)(h:l'.Pairwise (·<=·)):l'=pZ l:=by
 refine pX _ (λx _ y _ e=>by injection e) p (h.imp λ{a b} hab=>?_);unfold yF;intro z;rw[cons_lt_cons_iff]at z;rcases z with z|⟨_,z⟩
 ·omega
 ·exact lt_irrefl _ z
def iD (I:Inv X aa σ H s)(O:aJ B H)(q:Fin X.K B H (.lst ds) true Q)(T:aO ys out.toList)(hl:IsL X.K B ys ds)(hz:ys.length<=sizeLine):
  EP X aa σ Q (.ref (s.heap.objs.size+1)) { s with heap:=sortedAll s.heap its out }:=by
 obtain⟨e,he⟩:=sortedAll_at s.heap its out;have M:H (s.heap.objs.size+1)=none:=I.hok.fresh (le_succ _);have G:=Ext.laid (o:=.lst ys) O M;exact⟨.ref _,_,I.laid (t':=s.toks) (λb o=>sortedAll_old) (le_succ _) (show bH X.prog X.w _ _ _ (.lst ys)from ⟨hz,out.toList,e,T,he⟩),rfl,
  q _ _ _ G (.lst (dZ.of a8) (hl.mono G.bn)) λ_=>⟨_,_,_,rfl,rfl,M,a8,hl.mono G.bn⟩⟩
def qf:bp X (.builtin "sorted") (uw X.K dD):=by
 intro aa s σ H xs us Q I r h;obtain⟨B,dl,d,bb,O,i,G,q⟩:=h;cases i with
 |nil=>simp[dD]at G
 |cons i1 i2=>
  cases i2 with
  |cons _ _=>cases i1<;>simp[dD]at G
  |nil=>
   cases i1<;>try (simp[dD]at G;done)
   rename_i l0 vs ds h hl;obtain⟨u,rfl,rx⟩:=gA r;cases rx
   obtain⟨its,T,pl,hz⟩:=I.list (O.seq h);have EE:vs.length=its.length:=T.length;have F9:ds.length=vs.length:=hl.length.symm;simp only[dD]at G;split at G
   ·rename_i ss es;split at G
    ·rename_i U;cases G
     have M:=eP T hl es;have Ks:its.length=ss.length:=by rw[←M.strs,vI]
     refine sorted_strs pl.isList (by simpa using M) (by omega) λout ss' a1 a2 a3=>?_;have e:=mQ a2 a3;subst e;exact iD I O q (mW a1) (jd _) (by rw[vI,(dm ss).length_eq,sizeLine_eq];omega)
    ·cases G
   ·split at G
    ·rename_i ns es;split at G
     ·rename_i U;cases G
      have M:=t6 T hl es;have Ks:its.length=ns.length:=IntsAre.length M;refine sorted_ints pl.isList (by simpa using M) (by omega) λout ss' a1 a2 a3=>?_;have e:=xx a2 a3;subst e;exact iD I O q (fO a1) (qe _) (by rw[vI];unfold pZ;rw[(gs _ ns).length_eq,sizeLine_eq];omega)
     ·cases G
    ·split at G
     ·rename_i ks es;split at G
      ·rename_i hh;obtain⟨U,hc,hf⟩:=hh;cases G
       have IF:=hU es;have M:=tw I T (hl.mono O) es;refine pY pl.isList (by simpa using M) hc hf (by omega) λp ap up=>?_;have y7:its.length=ds.length:=by omega
       rw[y7]at ap up;have e:=rL es hc ap up;have qN:∀i∈p.toList,i<ds.length:=λi hi=>mem_range.mp (ap.perm.mem_iff.mp hi);have il:=qd hl p.toList qN;rw[e]at il;refine iD I O q (ys:=p.toList.map λi=>vs.getD i .non) ?_ il ?_
       ·simpa using mV T p.toList λi hi=>by rw[←F9];exact qN i hi
       ·rw[vI,vG,ap.size,sizeLine_eq];omega
      ·cases G
     ·cases G
end
end DL
namespace DL
open PySem PySem.Spec PyProof.Rows L2
section
variable {X:Cx}{e:Expr}{pos pos2 p p2:Pos}
def ms:bp X (.builtin "len") (λxs H Q=>∃S G,xs=[.ref S]/\H S=some (pT X S G)/\Q (.int (G.length:Nat)) H):=by
 intro aa s σ H xs us Q I r h;obtain⟨S,G,rfl,O,q⟩:=h;obtain⟨u,rfl,T⟩:=gA r;cases T
 have U:fu X.prog X.w s.heap S G:=(I.hok S _ O).1;obtain⟨o,es,ep,t,ho,M,hd,AZ,hp,nd,hb,hf,_⟩:=U;have sz:es.size=G.length:=by rw[←hp.length_eq,vI,vG]
 have Lh:G.length<4096:=hb;exact PySem.call_len_set ho M hd hf (by rw[sz];omega) ⟨.int (G.length:Nat),H,I.tok _,⟨_,by rw[sz]⟩,q⟩
def uM (hc:X.calm=true)(m1:X.mg "len" = none)(m2:X.mg "set" = none)(he:JE X e f)(g1:Gl X "len":=by rfl)(g2:Gl X "set":=by rfl)
  (h1:starEach [e] X.env=(false,eval e X.env)::starEach [] X.env:=by rfl):JE X (.Call (.Name "len" p) [.Call (.Name "set" p2) [e] [] pos2] [] pos) (f1 iZ f):=by
 refine PE.to (kR ms g1 m1 cG (cy (j5 (jX hc) g2 m2 AK (cy he dP h1) (he:=h1)) dP)) λσ H Q q=>?_;obtain⟨B,ρ,d',bb,sB,r,G,q⟩:=q;obtain⟨O,ex,G⟩:=oX G;refine⟨B,ρ,O.1,O.2,sB,r,ex,λv H1 N1 M i1 fr=>?_⟩;obtain⟨xd,xb⟩:=O;cases i1<;>try (simp[iZ]at G;done)
 rename_i l0 vs ds h hl;simp only[iZ]at G;obtain⟨ss,ez,G⟩:=oX G;split at G
 ·rename_i T;cases G
  refine⟨_,_,ss,rfl,M.nh.seq h,λits r'=>eP r' hl ez,T,λS hS=>⟨S,_,rfl,a8,?_⟩⟩;have U:=Ext.laid (o:=pT X S (fw ss)) M.nh hS;exact(q.into (M.trans U)).one (M.trans U).nh (.int _)
 ·cases G
end
section
variable {X:Cx}{pos:Pos}
theorem l7:∀ {ns:LI}{its:LU},aO (ns.map V.int) its->IntsAre its ns
 |[],_,.nil=>.nil
 |n::ns,_,.cons ⟨t,e⟩ r=>by subst e;exact .cons n t (l7 r)
noncomputable def Ej (n:Int):Value->Bool
 |.int m _=>m == n
 |_=>false
theorem xy {K:Frag}{B:Hp}:∀ {vs:LV}{ds:LD}{ns:LI},IsL K B vs ds->gD ds=some ns->vs=ns.map V.int
 |_,_,_,.nil,h=>by simp only[gD]at h;cases h;rfl
 |_,_,_,.cons i G,h=>by
  cases i<;>simp only[gD]at h<;>try (cases h;done)
  obtain⟨t,h2,h⟩:=oY h;subst h;rw[xy G h2];rfl
end
section
variable {X:Cx}{a:Expr}{pos:Pos}{x:Str}{p:Pos}{d:Addr}{bx:List (Str×D)}
def uN (M:iU X.K X.w.params d bx):ci X (compareOp .NotIn) (λx y H Q=>∃z,x=.str z/\y=.ref d/\Q (.bl (!(bx.lookup z).isSome)) H):=by
 rintro aa s σ H _ _ v u Q I O T ⟨z,rfl,rfl,q⟩;cases T
 obtain⟨t,rfl⟩:=O;obtain⟨f,U,sm,hf⟩:=M.map I;refine wpAny_notIn_of (strKind_is X.prog X.w z t) sm U ⟨.bl (!(bx.lookup z).isSome),H,I.tok _,?_,q⟩;have:=hf z;cases G:bx.lookup z with
 |none=>rw[G]at this;dsimp only at this;rw[this];rfl
 |some dd=>rw[G]at this;obtain⟨_,_,e1,_⟩:=this;rw[e1];rfl
def uP (h:∃d,X.mg x=some (.ref d)/\iU X.K X.w.params d bx)(ha:JE X a f)(U:Gl X x:=by rfl)(hd:(x == ("__debug__" : Str))=false:=by decide)(hm:behindInMarks .NotIn (.Name x p)=false:=by rfl):JT X (.Compare a [.NotIn] [.Name x p] pos) (br (f1 (ll bx) f)):=by
 obtain⟨d,M,cd⟩:=h;refine PT.to (so (uN cd) ha (kE (v:=.ref d) U M rfl hd) hm) λσ H Q q=>?_;obtain⟨B,ρ,d',bb,sB,r,G,q⟩:=nX q;obtain⟨O,ex,G⟩:=oX G;refine⟨B,ρ,O.1,O.2,sB,r,ex,λv H1 N1 T i1 fr=>?_⟩;obtain⟨xd,xb⟩:=O;cases i1<;>try (simp[ll]at G;done)
 rename_i z;simp only[ll]at G;cases G
 exact⟨z,rfl,rfl,(q.into T).one T.nh (.bl _)⟩
end
section
variable {prog:Program}{w:World}{A:Around}{E:QV}{s:Shared}
def rM {a:Addr}{o:Obj}{its:AV}{n:Nat}{x:Value}{e:Value->Bool}{j:Nat}{P:PySem.Fin->Shared->Prop}(ho:s.heap.get? a=some o)(hd:o.data=.seq its n)
  (he:∀y∈its,MeetsSeq.EqGives y x (e y)) (hj:j<its.size) (M:e its[j]=true) (O:∀m (hm:m<its.size),m<j->e its[m]=false)
  (h:P (.done (.ret (.int j s.toks))) { s with toks:=s.toks+1 }):wpAny (model prog w) A (Builtin.«tuple.index» ⟨[.ref a,x],[]⟩) P E s:=by
 show wpAny _ _ (Builtin.Tuple.tupleItemsOf (.ref a)>>=_) _ _ s;refine wX (wpAny_tupleItemsOf ho hd ?_);dsimp only;refine wX (wY (wX (wY (wX ?_))));rw[Std.Legacy.Range.forIn_eq_forIn_range'];refine wpAny_forIn_list _
  (λao r T=>r.1=none/\T=s/\∃i,i<=j/\ao=List.range' i (its.size - i))
  _ ?_ ?_ _ _ ⟨rfl,rfl,0,uO _,?_⟩
 ·rintro k ao r T ⟨hr,rfl,i,hi,hz⟩;have G:i<its.size:=by omega
  obtain⟨m,hm⟩:∃m,its.size - i=m+1:=⟨its.size - i - 1,by omega⟩;rw[hm,List.range'_succ]at hz;injection hz with U z2;have U:=U.symm;subst U;subst z2;have hg:its[i]? = some its[i]:=by simp[G]
  simp only[hg];refine wX (he _ (Array.getElem_mem G) prog w _ _ _ _ ?_);by_cases hij:i=j
  ·subst hij;rw[M];simp only[if_true];refine wX ?_;show wpAny _ _ (mkInt (i:Int)>>=λv=>ret v) _ _ _;exact wX (wpAny_mkInt (wY (wY (wY h))))
  ·rw[O i G (by omega)];simp only[uW,if_false];exact wY ⟨rfl,rfl,i+1,by omega,by rw[show its.size - (i+1)=m by omega]⟩
 ·rintro⟨r1,r2⟩ T ⟨hr,rfl,i,hi,hz⟩;exfalso;have:(List.range' i (its.size - i)).length=0:=by rw[←hz];rfl
  rw[List.length_range']at this;omega
 ·simp
end
theorem CRows.findT {K:Frag}{P:Params}(y:Str){ds:LD}:∀ {es:List DictEntry}{bx:List (Str×D)},CRows K P es bx->bx.lookup y=some (.tup ds) ->
  ∃e a its n kK,es.find? (λe=>Value.isStrOf y e.key)=some e/\e.val=.ref a/\K.lookup a=some ⟨.type "tuple",none,.seq its n,kK⟩/\gn its.toList ds=true
 |_,_,.nil,h=>by simp at h
 |_,_,.tup (x:=x) (t:=t) (a:=a) (ds:=O) hh l f tl,h=>by
  by_cases e:y=x
  ·subst e;rw[lookup_cons_self]at h;cases h
   rw[vD]at f;exact⟨_,a,_,_,_,List.find?_cons_of_pos (by simp[Value.isStrOf]),rfl,l,f.2⟩
  ·rw[lookup_cons,beq_eq_false_iff_ne.mpr e]at h;have G:Value.isStrOf y (Value.str x t)=false:=by
    rw[Bool.eq_false_iff];intro z;obtain⟨t',q⟩:=Value.isStrOf_shape z;injection q with M;exact e M.symm
   simp only[find?_cons,G];exact tl.findT y h
 |_,_,.flat (x:=x) (t:=t) (u:=u) (d:=d) hh f tl,h=>by
  by_cases e:y=x
  ·subst e;rw[lookup_cons_self]at h;cases h
   cases u<;>simp[oo]at f
  ·rw[lookup_cons,beq_eq_false_iff_ne.mpr e]at h;have G:Value.isStrOf y (Value.str x t)=false:=by
    rw[Bool.eq_false_iff];intro z;obtain⟨t',q⟩:=Value.isStrOf_shape z;injection q with M;exact e M.symm
   simp only[find?_cons,G];exact tl.findT y h
section
variable {X:Cx}{b e:Expr}{pos:Pos}{x:Str}{p:Pos}
def Gp (K:Frag):V->LV->Hp->VK->Prop:=λx xs H Q=>∃(a:Addr)(o:Obj)(its:AV)(n:Nat)(G:LS)(y:Str),x=.ref a/\xs=[.str y]/\K.lookup a=some o/\o.cls=.type "tuple"/\o.data=.seq its n/\StrsAre its.toList G/\G.findIdx (· == y)<G.length/\Q (.int (G.findIdx (· == y):Nat)) H
noncomputable def AM (y:Str):Value->Bool
 |.str z _=>z == y
 |_=>false
theorem t8:∀ {its:LU}{G:LS},StrsAre its G->∀(i:Nat)(hi:i<its.length),∃(h:i<G.length)(t:Tok),its[i]=.str G[i] t
 |_,_,.cons z t h,0,_=>⟨by simp,t,rfl⟩
 |_,_,.cons z t h,i+1,hi=>by
  obtain⟨h',t',e⟩:=t8 h i (by simpa using hi);exact⟨by simpa using h',t',by simpa using e⟩
 |_,_,.nil,i,hi=>by simp at hi
theorem qg:∀ {its:LU}{G:LS},StrsAre its G->its.length=G.length
 |_,_,.nil=>rfl
 |_,_,.cons _ _ h=>by rw[vE,vE,qg h]
def xz:yZ X "tuple.index" (Gp X.K):=by
 intro aa s σ H x xs v us Q I U rv h;obtain⟨a,o,its,n,G,y,rfl,rfl,lk,hc,hd,hz,hk,q⟩:=h;cases U
 obtain⟨u,rfl,⟨t,rfl⟩⟩:=rv.one;have T:=I.kIn a o lk;have hl:=qg hz;rw[vG]at hl;have at':∀(i:Nat)(hi:i<its.size),∃(h:i<G.length)(t:Tok),its[i]=.str G[i] t:=λi hi=>by
  obtain⟨h',t',e⟩:=t8 hz i (by simpa using hi);exact⟨h',t',by simpa using e⟩
 refine wpAny_call_entry PySem.F.slot_tuple_index ⟨o,T,hc⟩ PySem.F.entry_tuple_index (rM (e:=AM y) (j:=G.findIdx (· == y)) T hd (λz hm=>?_) (by omega) ?_ (λm hm O=>?_) ⟨_,rfl,.int (G.findIdx (· == y):Nat),H,I.tok _,⟨_,rfl⟩,q⟩) (PySem.F.args_tuple_index_2 _ _)
 ·obtain⟨i,hi,rfl⟩:=Array.mem_iff_getElem.mp hm;obtain⟨_,t',M⟩:=at' i hi;rw[M];exact eqGives_str _ _ _ _
 ·obtain⟨_,t',M⟩:=at' (G.findIdx (· == y)) (by omega);rw[M];exact List.findIdx_getElem (p:=(· == y)) (w:=hk)
 ·obtain⟨_,t',M⟩:=at' m hm;rw[M];have:=List.not_of_lt_findIdx (p:=(· == y)) (xs:=G) O;simpa [AM]using this
@[simp] def jH (bx:List (Str×D)):D->D->OB
 |.str y,.str z=>match bx.lookup y with
  |some (.tup ds)=>(fD ds).bind λG=>if G.findIdx (· == z)<G.length then some (.int (G.findIdx (· == z):Nat),false)else none
  |_=>none
 |_,_=>none
def zM {bx:List (Str×D)}{f g:FE}{O G:Pos}(h:∃d,X.mg x=some (.ref d)/\iU X.K X.w.params d bx)(hb:JE X b f)(he:JE X e g)(hg:Gl X x:=by rfl)(Kt:(x == ("__debug__" : Str))=false:=by decide)(hs:iL b:=by intro _ _;rfl)
  (U:attributeBase (.Subscript (.Name x p) b pos) "index" X.env (eval (.Subscript (.Name x p) b pos) X.env)=eval (.Subscript (.Name x p) b pos) X.env:=by rfl)
  (yB:((backTo G (starEach [e] X.env)).all (λx=>!x.1) && (backToKw G (keywordEach [] X.env)).all (λx=>x.1.isSome)
   && decide ([e].length+([]:List Keyword).length+(if([]:List Keyword).isEmpty then 0 else 1)<30))=true:=by rfl)
  (EY:(O.endLine == G.line)=true:=by rfl) (FF:starEach [e] X.env=[(false,eval e X.env)]:=by rfl):
  JE X (.Call (.Attribute (.Subscript (.Name x p) b pos) "index" O) [e] [] G) (f2 (jH bx) f g):=by
 obtain⟨d,hm,cd⟩:=h;have ix:wx X (λx y H Q=>∃z ds,x=.ref d/\y=.str z/\bx.lookup z=some (.tup ds)/\∀a its n kK,X.K.lookup a=some ⟨.type "tuple",none,.seq its n,kK⟩->gn its.toList ds=true->Q (.ref a) H):=by
  intro value slice aa s σ H x y v u Q I rx ry q hs;obtain⟨z,ds,rfl,rfl,el,q⟩:=q;cases rx
  obtain⟨t,rfl⟩:=ry;obtain⟨es,n,l,r,sm⟩:=cd;have hM:=PySem.W.mapOf_K (prog:=X.prog) (w:=X.w) I.kIn l r.lit;obtain⟨en,a,its,n',kK,e1,e2,e3,e4⟩:=r.findT z el;have ff:findBy Value.isStrOf es z=some (.ref a):=by
   unfold findBy;obtain⟨es⟩:=es;rw[List.find?_toArray,e1,←e2];rfl
  exact tail_any hM.typeIs slot_dict_getitem.lookup (wpAny_getItem_of (strKind_is X.prog X.w z t) hM ff ⟨.ref a,H,I.tok _,rfl,q a _ _ _ e3 e4⟩) hs
 refine PE.to (mB (T:="tuple") PySem.F.plainAttrs_tuple PySem.F.slot_tuple_index PySem.F.type_tuple_index xz (sw ix (kE (v:=.ref d) hg hm rfl Kt) hb hs) (cy he dP FF) U yB EY FF rfl) λσ H Q q=>?_;obtain⟨B,ρ,d',bb,sB,r,M,q⟩:=q;obtain⟨x1,ex,M⟩:=oX M;obtain⟨y1,ey,M⟩:=oX M;obtain⟨xd,xb⟩:=x1;obtain⟨yd,yb⟩:=y1;cases xd with
 |str z=>
  cases yd with
  |str y=>
   refine⟨B,ρ,_,xb,sB,r,ex,λv H1 N1 xt i1 _=>?_⟩;cases i1
   simp only[jH]at M;split at M
   ·rename_i ds el;obtain⟨zs,ez,M⟩:=oX M;split at M
    ·rename_i hk;cases M
     refine⟨z,ds,rfl,rfl,el,λa its n kK l fl=>⟨.inr (.inl ⟨rfl,_,l,rfl,rfl⟩),N1,ρ,_,yb,xt.nh,r.mono xt.bn,ey,λv2 H2 N2 EQ i2 _=>?_⟩⟩;cases i2
     obtain⟨vs,rv,iv⟩:=gp (K:=X.K) fl;exact⟨a,_,its,n,zs,y,rfl,rfl,l,rfl,rfl,eP rv (iv N2) ez,hk,(q.into (xt.trans EQ)).one EQ.nh (.int _)⟩
    ·cases M
   ·cases M
  |_=>simp[jH]at M
 |_=>simp[jH]at M
end
open PySem.W (tabIn tabObj CodeHd kla_fn kla_obj kla_eval kla_makeFunction kla_makeFunctionHit kla_callFunE kla_codeExpr envX)
section
variable {P:Program}{w:World}{K:Frag}{mg:SV}{base:Heap}
def dO.fnL {x:Str}{st:Stmt}{N ps:LS}{k:Nat}{g:FS}{h:Heap}(F:dO K x st)(X:K.In h)(G:h.Ns mainGlobals mg)(S:FnScope N ps (aD st))
  (O:∀(kV doc pm:Value)(an:Option Addr)(cC ct:Value)(us:LU),us.length=ps.length->bindArgs (fnOf x x (dB st) (bK st) (aD st) .none kV doc pm an cC ct) ⟨us,[]⟩=pure (ps.zip us))
  (hb:∀(f:Addr)(cC:Value)(A:Around)(outer:List PySem.Env)(s:Shared)(H:Hp)(E:XK),(∀c P,tabIn K x=some (c,P)->cC=.ref c)->dY k (A.deeper (envOfC x (aD st) s.heap.objs.size f cC))->md (kn rg P w K mg base N x (aD st) f cC A outer s H E).nox (bK st) g):
  Fn P w K mg base (k+1) x (aN g ps.length (N.length - ps.length)):=by
 obtain⟨f,fd,T,a⟩:=F;have F2:=T;obtain⟨oc,od,kV,doc,pm,an,cC,ct,kK,rfl,lk,U⟩:=F2.ex;have hc:∀c P,tabIn K x=some (c,P)->cC=.ref c:=λc P e=>by
  unfold tabIn at e;simp only[a,lk]at e;split at e
  ·rename_i c' _;split at e
   ·split at e
    ·cases e;rfl
    ·cases e
   ·cases e
  ·cases e
 have len:∀vs H Q E,AA K (aN g ps.length (N.length - ps.length)) vs H Q E->vs.length=ps.length:=λvs H Q E h=>by
  obtain⟨B,ds,d,b,sB,i,e,q⟩:=h;unfold aN at e;split at e
  ·rename_i hl;rw[i.length];exact hl
  ·cases e
 refine⟨f,_,ps,A5 lk U S len λA outer s H vs Q E hr h=>⟨_,me.nox (hb f cC A outer s H E hc hr),?_⟩,mg_of X G a,T.kp,T.binds O⟩;have M:=len vs H Q E h;obtain⟨B,ds,d,b,sB,i,e,q⟩:=h;unfold aN at e;rw[if_pos (by rw[←i.length];exact M)]at e;have s0:=px (N:=N) sB.1 sB.2 i;rw[M]at s0;split at e
 ·rename_i d' b' eg;cases e
  exact⟨B,H,_,_,⟨B,s0⟩,eg,λv H' N' x' i' f'=>q v H' N' x' i' f'⟩
 ·rename_i ρ' eg;cases e
  exact⟨B,H,_,_,⟨B,s0⟩,eg,λσ' H' ⟨N',s'⟩=>q .non H' N' s'.ext .non (by simp)⟩
 ·cases e
end
inductive qO (X:Cx)(N':List Str)(scope:Scope)(cl:List (Str×Addr)):Nat->List Nat->Prop where
 |nil {j:Nat}(h:N'.length=j):qO X N' scope cl j []
 |cons {j i:Nat}{r:List Nat}{x:Str}(h1:N'[j]? = some x) (h2:X.N[i]? = some x) (h3:X.env.kindOf x=some .cell∨X.env.kindOf x=some .free)
   (h4:scope.names.lookup x=some .free) (h5:cl.lookup x=X.env.cells.lookup x) (t:qO X N' scope cl (j+1) r):qO X N' scope cl j (i::r)
theorem qO.get:∀ {j:Nat}{cap:LN}{k i:Nat},qO X N' scope cl j cap->cap[k]? = some i->∃x,N'[j+k]? = some x/\X.N[i]? = some x/\(X.env.kindOf x=some .cell∨X.env.kindOf x=some .free) /\
  scope.names.lookup x=some .free/\cl.lookup x=X.env.cells.lookup x
 |_,_,_,_,.nil _,e=>by simp at e
 |j,_,0,_,.cons h1 h2 h3 h4 h5 _,e=>by simp at e;subst e;exact⟨_,h1,h2,h3,h4,h5⟩
 |j,_,k+1,i,.cons _ _ _ _ _ t,e=>by
  obtain⟨x,q,r⟩:=t.get (k:=k) (i:=i) (by simpa using e);exact⟨x,by rw[show j+(k+1)=j+1+k by omega];exact q,r⟩
end DL
namespace DL
open PySem PySem.Spec PySem.W PyProof.Rows L2
noncomputable def Ek (f:D->Option D):LD->Option LD
 |[]=>some []
 |d::ds=>(f d).bind λx=>(Ek f ds).map (x :: ·)
def xA (ks:List (List At))(ds:LD):LD:=(jY (λp:List At×D=>fx p.1) (ks.zip ds)).map (·.2)
@[simp] def xB (M:LD->Option (List (List At)))(ok:List (List At)->Bool)(f:FE)(O:Env->D->Option D):FE:=λρ=>(f ρ).bind λx=>match x.1 with
 |.lst ds=>(Ek (O ρ) ds).bind λG=>(M G).bind λks=>if ks.length<64/\jZ ks=true/\ok ks=true/\(ks.map fx).Nodup then some (.lst (xA ks ds),true)else none
 |_=>none
@[simp] abbrev Gq:FE->(Env->D->Option D)->FE:=xB fY eQ
section
variable {prog:Program}{w:World}{A:Around}{E:QV}{s:Shared}{op:CmpOp}
def iB.type (h:iB s.heap xs v):s.TypeIs v "tuple":=by
 obtain⟨a,o,its,n,rfl,G,hc,_⟩:=h;exact⟨o,G,hc⟩
end
end DL
namespace DL
open PySem PySem.Spec PyProof.Rows L2
section
variable {X:Cx}
noncomputable def ng:D->D->OB
 |.tup xs,.tup ys=>if xs.isEmpty=true then some (.tup ys,false)else none
 |_,_=>none
def zN:ci X (binaryOp .Add) (rD X.K ng):=by
 intro aa s σ H x y v u Q I rx ry q;obtain⟨B,dx,dy,d,bb,sB,ix,iy,G,q⟩:=q;cases ix<;>try (cases G;done)
 cases iy<;>try (cases G;done)
 rename_i l vs ds h hl l' ws es h' Hm;simp only[ng]at G;split at G
 ·rename_i hz;cases G
  cases rx
  cases ry
  obtain⟨its,r1,p1,_⟩:=I.tuple (aL sB h);obtain⟨M,r2,p2,_⟩:=I.tuple (aL sB h');have he:its.toArray.isEmpty=true:=by
   have e1:=hl.length;have e2:=r1.length;have e3:=List.isEmpty_iff.mp hz;rw[e3]at e1;cases its with
   |nil=>rfl
   |cons a b=>rw[e1]at e2;simp at e2
  obtain⟨⟨cls,dd,data,sl⟩,ho,hc,n,hd⟩:=id p1;obtain⟨⟨GH,Ku,data2,Kv⟩,O,T,n2,U⟩:=id p2;dsimp only at hc hd T U;subst hc;subst hd;subst T;subst U;exact concat_meets ⟨_,ho,rfl⟩ ⟨_,O,rfl⟩ noFill_tuple_add seq_tuple_add slot_tuple_add entry_tuple_add (args_tuple_add_2 _ _)
   (tuple_addW0 l l' its.toArray M.toArray n n2 dd Ku sl Kv he) ⟨ho,O,⟨.ref l',H,I,rfl,q.one sB (.tup h' Hm)⟩⟩
 ·cases G
@[simp] noncomputable def t9:D->D->OB
 |.tup xs,.tup ys=>if xs.length+ys.length<=sizeLine then some (.tup (xs++ys),false)else none
 |_,_=>none
def zO (xs ys:LD)(z:xs.length+ys.length<=sizeLine):v0 mm ng (.tup xs) (.tup ys)=some (.tup (xs++ys),false):=by
 cases xs with
 |nil=>
  have:mm (.tup []) (.tup ys)=none:=if_neg (λh=>by cases h.2);show(match mm (.tup []) (.tup ys) with|some z=>some z|none=>ng (.tup []) (.tup ys))=_;rw[this];rfl
 |cons a l=>
  have:mm (.tup (a::l)) (.tup ys)=some (.tup (a::l++ys),false):=if_pos ⟨z,rfl⟩;show(match mm (.tup (a::l)) (.tup ys) with|some z=>some z|none=>ng (.tup (a::l)) (.tup ys))=_;rw[this]
def xC:ci X (binaryOp .Add) (rD X.K t9):=by
 refine fK (r:=rD X.K (v0 mm ng)) (j9 wS zN) λx y H Q q=>?_;obtain⟨B,dx,T,d,U,sB,M,O,G,q⟩:=q;refine⟨B,dx,T,d,U,sB,M,O,?_,q⟩;cases M<;>try (cases G;done)
 cases O<;>try (cases G;done)
 rename_i l vs ds h hl l' ws es h' Hm;simp only[t9]at G;split at G
 ·rename_i hz;rw[zO _ _ hz];exact G
 ·cases G
end
section
variable {X:Cx}
@[simp] def oE:LD->OB
 |[d,.tup [.ty n,.ty m]]=>if u5 d=true then none else if n = "list"/\m = "tuple" then some (.bl (eO d == "list" || eO d == "tuple"),false)else none
 |_=>none
def uQ (K:Frag)(d:D)(hd:∀n,d≠.ty n):PySem.W.kitAny K (.type (eO d)) [.type "list",.type "tuple"]=some (eO d == "list" || eO d == "tuple"):=by
 obtain⟨_,_,_,k4,k5⟩:=wP K d hd;unfold PySem.W.kitAny;rw[k4];cases eO d == "list" with
 |true=>rfl
 |false=>
  unfold PySem.W.kitAny;rw[k5];cases eO d == "tuple" with
  |true=>rfl
  |false=>rfl
def xD (I:Inv X aa σ H s)(i:Is X.K H v d)(hd:∀n,d≠.ty n)(G:aP v u)(T:IsTup s.heap tp its.toArray)(e:PySem.W.kitAny X.K (.type (eO d)) its=some b)(h:∀tk,Q (.bool b) { s with toks:=tk }):
  wpAny (model X.prog X.w) A (call (.builtin "isinstance") [u,.ref tp]) Q E s:=by
 obtain⟨⟨cls,dd,data,sl⟩,M,hc,n,O⟩:=id T;dsimp only at hc O;subst hc;subst O;cases i with
 |non=>cases (show u=Value.none from G);exact PySem.W.kia_tup PySem.W.kitx_none I.kIn True.intro M e (λz=>nomatch z) h
 |bl y=>cases (show u=Value.bool y from G);exact PySem.W.kia_tup PySem.W.kitx_bool I.kIn True.intro M e (λz=>nomatch z) h
 |int i=>obtain⟨t,q⟩:=(show ∃t,u=Value.int i t from G);cases q;exact PySem.W.kia_tup PySem.W.kitx_int I.kIn True.intro M e (λz=>nomatch z) h
 |str y=>obtain⟨t,q⟩:=(show ∃t,u=Value.str y t from G);cases q;exact PySem.W.kia_tup PySem.W.kitx_str I.kIn True.intro M e (λz=>nomatch z) h
 |ty n=>exact absurd rfl (hd n)
 |dk h1 _ _=>
  cases G
  obtain⟨_,_,_,vs,_,o,es,ep,U,e2,_⟩:=(show bH X.prog X.w H s.heap _ (.dK _ _)from I.hok _ _ h1);exact PySem.W.kia_tup PySem.W.kitx_dict I.kIn ⟨o,U,e2.1⟩ M e (λz=>nomatch z) h
 |dt h1 _ _=>
  cases G
  obtain⟨_,_,xs,_,o,es,ep,U,e2,_⟩:=(show bH X.prog X.w H s.heap _ (.dT _)from I.hok _ _ h1);exact PySem.W.kia_tup PySem.W.kitx_dict I.kIn ⟨o,U,e2.1⟩ M e (λz=>nomatch z) h
 |tup T _=>
  cases G
  obtain⟨its,_,⟨o,h1,h2,_⟩,_⟩:=I.tuple T;exact PySem.W.kia_tup PySem.W.kitx_tuple I.kIn ⟨o,h1,h2⟩ M e (λz=>nomatch z) h
 |lst hl _=>
  cases G
  obtain⟨its,_,⟨o,n,h1,h2,_⟩,_⟩:=I.list hl;exact PySem.W.kia_tup PySem.W.kitx_list I.kIn ⟨o,h1,h2⟩ M e (λz=>nomatch z) h
def uR:bp X (.builtin "isinstance") (uw X.K oE):=by
 intro aa s σ H xs us Q I T q;obtain⟨B,ds,d,b,G,i,e,q⟩:=q;match ds,i,e with
 |[dx,.tup [.ty n,.ty m]],.cons i1 (.cons i2 .nil),e=>
  obtain⟨u1,u2,rfl,U,r2⟩:=sq T;simp only[oE]at e;split at e
  ·cases e
  ·rename_i ht;have hd:∀n,dx≠.ty n:=λn z=>by subst z;exact ht rfl
   split at e
   ·rename_i hh;obtain⟨rfl,rfl⟩:=hh;cases e
    cases i2 with
    |tup hs hl=>
     cases hl with
     |cons j1 hl=>
      cases hl with
      |cons j2 hl=>
       cases hl
       cases j1
       cases j2
       cases r2
       obtain⟨its,rv,p,_⟩:=I.tuple (aL G hs);obtain⟨w1,w2,rfl,M,O⟩:=rv.two;cases M
       cases O
       exact xD I (i1.mono G) hd U p (uQ X.K dx hd) λtk=>⟨.bl _,H,I.tok tk,rfl,q.one G (.bl _)⟩
   ·cases e
end
@[simp] noncomputable def AN:D->Option iI
 |.int i=>some (.inl i)
 |.str x=>some (.inr x)
 |_=>none
noncomputable def xE {κ:Type}[DecidableEq κ]:List κ->LD->κ->Option D
 |k'::ks,d::ds,k=>if k'=k then some d else xE ks ds k
 |_,_,_=>none
section
variable {X:Cx}{o e i:Expr}{pos:Pos}
@[simp] def KR:D->D->OB
 |.dk ks vs,y=>(AN y).bind λk=>(xE ks vs k).map λd=>(d,false)
 |_,_=>none
@[simp] def KS:D->D->OB
 |y,.dk ks vs=>(AN y).map λk=>(.bl (xE ks vs k).isSome,false)
 |_,_=>none
end
section
variable {prog:Program}{w:World}{A:Around}{E:QV}{s:Shared}
abbrev jI (h:Heap)(z TI TO G:Addr)(f:Bool):Prop:=h.get? z=some { cls:=.type "zip",dict:=none,data:=.fields #[rawInt G,.bool f,.bool false,.ref TI,.ref TO],slots:=#[] }
def xF (e:s.heap.get? a=some o)(h:Q (some o) s):wpAny (model prog w) A (loadIfAlive a) Q E s:=by
 intro M p G;unfold loadIfAlive;simp only[Sem.wp];rw[e];exact h
def ni {z TI TO G:Addr}{f:Bool}{O:Obj}{Q:Bool->Shared->Prop}(hz:jI s.heap z TI TO G f)(T:s.heap.get? G=some O)
  (q:∀h',jI h' z TI TO G true->Heap.SameBut z s.heap h'->Q false { s with heap:=h' }):wpAny (model prog w) A (Builtin.SmallTypes.ownedTupleIsFree (.ref z)) Q E s:=by
 unfold Builtin.SmallTypes.ownedTupleIsFree;refine wX (wpAny_field hz rfl (x:=rawInt G) rfl ?_);show wpAny _ _ (loadIfAlive ((G:Int).toNat)>>=_) _ _ _;rw[toNat_natCast];refine wX (xF T ?_);simp only[isNone_some,uW,if_false];refine wX (wpAny_field hz rfl (x:=.bool f) rfl ?_);cases f with
 |true=>
  rw[if_neg (show ¬((Value.bool true != Value.bool true)=true)from uY)];exact wY (q s.heap hz (.refl _ _))
 |false=>
  rw[if_pos (show((Value.bool false != Value.bool true)=true)from rfl)];refine wX (wpAny_setField_rec hz (by simp) λh' M U=>wY (q h' M U))
end
section
variable {prog:Program}{w:World}{A:Around}{E:QV}{s:Shared}
def uT {k1 k2:Bool}{z TI TO U i1 i2 l1 l2:Addr}{f:Bool}{oT:Obj}{j:Nat}{xs ys:AV}{x y:Value}{Q:QV}(D:ZApart z TI TO i1 i2)(m1:l1≠z/\l1≠TO/\l1≠i1)(m2:l2≠z/\l2≠TO/\l2≠i1/\l2≠i2)
  (hz:jI s.heap z TI TO U f) (hT:s.heap.get? U=some oT) (hI:IsPair s.heap TI (.ref i1) (.ref i2)) (t1:iH k1 s.heap i1 l1 j) (t2:iH k2 s.heap i2 l2 j) (q1:i0 k1 s.heap l1 xs) (q2:i0 k2 s.heap l2 ys) (hx:xs[j]? = some x) (hy:ys[j]? = some y)
  (q:∀h',jI h' z TI TO U true->iH k1 h' i1 l1 (j+1)->iH k2 h' i2 l2 (j+1)->IsPair h' s.heap.objs.size x y ->
   (∀c o,c≠z->c≠i1->c≠i2->s.heap.get? c=some o->h'.get? c=some o)->Q (.ref s.heap.objs.size) { s with heap:=h' }):
  wpAny (model prog w) A (Builtin.«zip.__next__» ⟨[.ref z],[]⟩) (λse s'=>∃v,se=.done (.ret v)/\Q v s') E s:=by
 show wpAny _ _ (field (.ref z) 2>>=_) _ _ s;refine wX (wpAny_field hz rfl (x:=.bool false) rfl ?_);show wpAny _ _ (field (.ref z) 3>>=_) _ _ s;refine wX (wpAny_field hz rfl (x:=.ref TI) rfl (wX (wpAny_seqItems hI rfl ?_)));show wpAny _ _ (Builtin.SmallTypes.ownedTupleIsFree (.ref z)>>=_) _ _ s;refine wX (ni hz hT λg1 hz1 s1=>?_);simp only[uW,if_false];refine wX ?_;simp only[←Array.forIn_toList,forIn_cons,forIn_nil];refine wX (wX (wpAny_holding ?_));show wpAny _ _ (Builtin.SmallTypes.nextOf (.ref i1)>>=_) _ _ { s with heap:=g1 };refine wX (eJ (s:={ s with heap:=g1 }) (t1.upon λo e=>s1.extBut _ _ D.az e) (q1.upon λo e=>s1.extBut _ _ m1.1 e) hx λg2 t12 s2=>wY ?_);refine wY (wX (wX (wpAny_holding ?_)));show wpAny _ _ (Builtin.SmallTypes.nextOf (.ref i2)>>=_) _ _ { s with heap:=g2 };have G:∀ {c o},c≠z->c≠i1->s.heap.get? c=some o->g2.get? c=some o:=λO c3 e=>s2.extBut _ _ c3 (s1.extBut _ _ O e);refine wX (eJ (s:={ s with heap:=g2 }) (t2.upon λo e=>G D.bz D.ab.symm e) (q2.upon λo e=>G m2.1 m2.2.2.1 e) hy λM t24 T=>wY ?_);refine wY (wY ?_);refine wX (wpAny_newTuple (hsz:=(by decide:2<=sizeLine)) ?_);have sz:M.objs.size=s.heap.objs.size:=by rw[T.1,s2.1,s1.1]
 have Kw:∀c o,c≠z->c≠i1->c≠i2->s.heap.get? c=some o->M.get? c=some o:=λc o O c3 c4 e=>T.extBut _ _ c4 (G O c3 e);refine wY ⟨_,rfl,?_⟩;show Q (.ref M.objs.size) { s with heap:=M.push { cls:=.type "tuple",data:=.seq #[x,y] } };have hp:IsPair (M.push { cls:=.type "tuple",data:=.seq #[x,y] }) M.objs.size x y:=vY _ rfl;rw[sz]at hp ⊢;exact q _ (vZ _ (T.extBut _ _ D.bz.symm (s2.extBut _ _ D.az.symm hz1))) (t12.upon λo e=>vZ _ (T.extBut _ _ D.ab e)) (t24.upon λo e=>vZ _ e) hp λc o O c3 c4 e=>vZ _ (Kw c o O c3 c4 e)
def xG {k1 k2:Bool}{z TI TO U i1 i2 l1 l2:Addr}{f:Bool}{oT:Obj}{j:Nat}{xs ys:AV}{Q:PySem.Fin->Shared->Prop}(hA:A.handled=none)(D:ZApart z TI TO i1 i2)(m1:l1≠z/\l1≠TO/\l1≠i1)(m2:l2≠z/\l2≠TO/\l2≠i1/\l2≠i2)
  (hz:jI s.heap z TI TO U f) (hT:s.heap.get? U=some oT) (hI:IsPair s.heap TI (.ref i1) (.ref i2)) (t1:iH k1 s.heap i1 l1 j) (t2:iH k2 s.heap i2 l2 j) (q1:i0 k1 s.heap l1 xs) (q2:i0 k2 s.heap l2 ys) (he:xs[j]? = none∨ys[j]? = none)
  (q:∀h' x,(∀c o,c≠z->c≠i1->c≠i2->s.heap.get? c=some o->h'.get? c=some o)->(∃o,h'.get? x=some o/\o.cls=.type "StopIteration")->E (.ref x) { s with heap:=h' }):
  wpAny (model prog w) A (Builtin.«zip.__next__» ⟨[.ref z],[]⟩) Q E s:=by
 show wpAny _ _ (field (.ref z) 2>>=_) _ _ s;refine wX (wpAny_field hz rfl (x:=.bool false) rfl ?_);show wpAny _ _ (field (.ref z) 3>>=_) _ _ s;refine wX (wpAny_field hz rfl (x:=.ref TI) rfl (wX (wpAny_seqItems hI rfl ?_)));show wpAny _ _ (Builtin.SmallTypes.ownedTupleIsFree (.ref z)>>=_) _ _ s;refine wX (ni hz hT λT hz1 s1=>?_);simp only[uW,if_false];refine wX ?_;simp only[←Array.forIn_toList,forIn_cons,forIn_nil];refine wX (wX (wpAny_holding ?_));show wpAny _ _ (Builtin.SmallTypes.nextOf (.ref i1)>>=_) _ _ { s with heap:=T };cases hx:xs[j]? with
 |none=>
  exact wX (iT (s:={ s with heap:=T }) hA (t1.upon λo e=>s1.extBut _ _ D.az e) (q1.upon λo e=>s1.extBut _ _ m1.1 e) hx λM x s2 hX=>q M x (λc o O c3 _ e=>s2 _ _ c3 (s1.extBut _ _ O e)) hX)
 |some v=>
  have hy:ys[j]? = none:=by
   rcases he with h|h
   ·rw[hx]at h;cases h
   ·exact h
  refine wX (eJ (s:={ s with heap:=T }) (t1.upon λo e=>s1.extBut _ _ D.az e) (q1.upon λo e=>s1.extBut _ _ m1.1 e) hx λM t12 s2=>wY ?_);refine wY (wX (wX (wpAny_holding ?_)));show wpAny _ _ (Builtin.SmallTypes.nextOf (.ref i2)>>=_) _ _ { s with heap:=M };have G:∀ {c o},c≠z->c≠i1->s.heap.get? c=some o->M.get? c=some o:=λO c3 e=>s2.extBut _ _ c3 (s1.extBut _ _ O e);exact wX (iT (s:={ s with heap:=M }) hA (t2.upon λo e=>G D.bz D.ab.symm e) (q2.upon λo e=>G m2.1 m2.2.2.1 e) hy λg4 x s4 hX=>q g4 x (λc o O c3 c4 e=>s4 _ _ c4 (G O c3 e)) hX)
end
structure ZA (k1 k2:Bool)(z TI TO i1 i2 l1 l2:Addr):Prop where
 D:ZApart z TI TO i1 i2
 m1:l1≠z/\l1≠TO/\l1≠i1
 m2:l2≠z/\l2≠TO/\l2≠i1/\l2≠i2
def xH (k1 k2:Bool)(z TI TO i1 i2 l1 l2 S:Addr)(i:Nat)(h:Heap):Prop :=
 IsPair h TI (.ref i1) (.ref i2)/\iH k1 h i1 l1 i/\iH k2 h i2 l2 i/\((IsZip h z TI TO .none/\∃a b,IsPair h TO a b)∨∃G f M O,jI h z TI TO G f/\h.get? G=some M/\G∉[z,TI,TO,i1,i2]/\G≠S/\h.get? TO=some O)
def xH.keep {k1 k2:Bool}{z TI TO i1 i2 l1 l2 S:Addr}{i:Nat}{h h':Heap}(st:xH k1 k2 z TI TO i1 i2 l1 l2 S i h)(G:S∉[z,TI,TO,i1,i2])(k:∀b o,b≠S->h.get? b=some o->h'.get? b=some o):xH k1 k2 z TI TO i1 i2 l1 l2 S i h':=by
 obtain⟨M,O,T,U⟩:=st;have n:∀ {b},b∈[z,TI,TO,i1,i2]->b≠S:=λhb e=>G (e ▸ hb);refine⟨k _ _ (n (by simp)) M,O.upon λo e=>k _ o (n (by simp)) e,T.upon λo e=>k _ o (n (by simp)) e,?_⟩;rcases U with⟨b1,a,b,b2⟩|⟨T0,f,oT,oO,b1,b2,b3,b4,b5⟩
 ·exact .inl ⟨k _ _ (n (by simp)) b1,a,b,k _ _ (n (by simp)) b2⟩
 ·exact .inr ⟨T0,f,oT,oO,k _ _ (n (by simp)) b1,k _ _ b4 b2,b3,b4,k _ _ (n (by simp)) b5⟩
section
variable {prog:Program}{w:World}{A:Around}{E:QV}{s:Shared}{k1 k2:Bool}{z TI TO i1 i2 l1 l2 S:Addr}{j:Nat}{xs ys:AV}
def xH.ty (st:xH k1 k2 z TI TO i1 i2 l1 l2 S j h):∃o,h.get? z=some o/\o.cls=.type "zip":=by
 obtain⟨_,_,_,G⟩:=st;rcases G with⟨b1,_⟩|⟨M,f,O,T,b1,_⟩
 ·exact⟨_,b1,rfl⟩
 ·exact⟨_,b1,rfl⟩
def xI (Z:ZA k1 k2 z TI TO i1 i2 l1 l2)(hS:S<s.heap.objs.size)(st:xH k1 k2 z TI TO i1 i2 l1 l2 S j s.heap)(q1:i0 k1 s.heap l1 xs)(q2:i0 k2 s.heap l2 ys)(hx:xs[j]? = some x)(hy:ys[j]? = some y)
  (q:∀h',xH k1 k2 z TI TO i1 i2 l1 l2 S (j+1) h'->IsPair h' s.heap.objs.size x y->(∀c o,c∉[z,TI,TO,i1,i2]->s.heap.get? c=some o->h'.get? c=some o)->Q (some (.ref s.heap.objs.size)) { s with heap:=h' }):
  wpAny (model prog w) A (pyNext (.ref z)) Q E s:=by
 have M:s.TypeIs (.ref z) "zip":=st.ty;obtain⟨G,U,t2,a4⟩:=st;have lt:∀ {c o},s.heap.get? c=some o->s.heap.objs.size≠c:=λe=>ne_of_gt (vX e);obtain⟨o1,e1,_⟩:=U.ob;obtain⟨o2,e2,_⟩:=t2.ob;unfold pyNext;rcases a4 with⟨hz,a,b,O⟩|⟨T0,f,oT,oO,hz,h0,n0,nS,O⟩
 ·refine wX (wpAny_attempt (wpAny_callSpecial?_slot (name:=Str.ofString "__next__") M slot_zip_next (wpAny_call_entry slot_zip_next M entry_zip_next (pJ Z.D Z.m1 Z.m2 hz G O U t2 q1 q2 hx hy λh' b1 b2 b3 b4 T b6 bk=>wY ?_) (args_zip_next_1 _))));refine q h' ⟨bk _ _ Z.D.tz Z.D.to Z.D.ta Z.D.tb G,b3,b4,.inr ⟨_,false,_,_,b1,T,?_,ne_of_gt hS,b2⟩⟩ T λc o hc e=>bk c o (λz=>hc (by simp[z])) (λz=>hc (by simp[z])) (λz=>hc (by simp[z])) (λz=>hc (by simp[z])) e;simp only[mem_cons,not_mem_nil,or_false,not_or];exact⟨lt hz,lt G,lt O,lt e1,lt e2⟩
 ·refine wX (wpAny_attempt (wpAny_callSpecial?_slot (name:=Str.ofString "__next__") M slot_zip_next (wpAny_call_entry slot_zip_next M entry_zip_next (uT Z.D Z.m1 Z.m2 hz h0 G U t2 q1 q2 hx hy λh' b1 b3 b4 T bk=>wY ?_) (args_zip_next_1 _))));exact q h' ⟨bk _ _ Z.D.tz Z.D.ta Z.D.tb G,b3,b4,.inr ⟨T0,true,oT,oO,b1,bk _ _ (λz=>n0 (by simp[z])) (λz=>n0 (by simp[z])) (λz=>n0 (by simp[z])) h0,n0,nS,bk _ _ Z.D.oz Z.D.oa Z.D.ob O⟩⟩ T λc o hc e=>bk c o (λz=>hc (by simp[z])) (λz=>hc (by simp[z])) (λz=>hc (by simp[z])) e
def xJ (O:A.handled=none)(Z:ZA k1 k2 z TI TO i1 i2 l1 l2)(st:xH k1 k2 z TI TO i1 i2 l1 l2 S j s.heap)(U:i0 k1 s.heap l1 xs)(q2:i0 k2 s.heap l2 ys)(he:xs[j]? = none∨ys[j]? = none)
  (q:∀h',(∀c o,c∉[z,TI,TO,i1,i2]->s.heap.get? c=some o->h'.get? c=some o)->Q none { s with heap:=h' }):wpAny (model prog w) A (pyNext (.ref z)) Q E s:=by
 have G:s.TypeIs (.ref z) "zip":=st.ty;obtain⟨hI,t1,t2,a4⟩:=st;unfold pyNext;rcases a4 with⟨hz,a,b,hO⟩|⟨T0,f,oT,oO,hz,h0,n0,nS,hO⟩
 ·refine wX (wpAny_attempt (wpAny_callSpecial?_slot (name:=Str.ofString "__next__") G slot_zip_next (wpAny_call_entry slot_zip_next G entry_zip_next (sZ O Z.D Z.m1 Z.m2 hz hI hO t1 t2 U q2 he λh' x hk hX=>?_) (args_zip_next_1 _))));obtain⟨o,M,co⟩:=hX;exact wX (wpAny_isInstance (T:="StopIteration") (b:=true) ⟨o,M,co⟩ isSubtype_stop (wY (q h' λc o hc e=>hk c o (λz=>hc (by simp[z])) (λz=>hc (by simp[z])) (λz=>hc (by simp[z])) (λz=>hc (by simp[z])) e)))
 ·refine wX (wpAny_attempt (wpAny_callSpecial?_slot (name:=Str.ofString "__next__") G slot_zip_next (wpAny_call_entry slot_zip_next G entry_zip_next (xG O Z.D Z.m1 Z.m2 hz h0 hI t1 t2 U q2 he λh' x hk hX=>?_) (args_zip_next_1 _))));obtain⟨o,M,co⟩:=hX;exact wX (wpAny_isInstance (T:="StopIteration") (b:=true) ⟨o,M,co⟩ isSubtype_stop (wY (q h' λc o hc e=>hk c o (λz=>hc (by simp[z])) (λz=>hc (by simp[z])) (λz=>hc (by simp[z])) e)))
end
def xK (h:a≠b):upd (upd H a o) b u=upd (upd H b u) a o:=by
 funext c;unfold upd;by_cases h1:c=b
 ·by_cases h2:c=a
  ·exact absurd (h2.symm.trans h1) h
  ·rw[if_pos h1,if_neg h2,if_pos h1]
 ·rw[if_neg h1];by_cases h2:c=a
  ·rw[if_pos h2,if_pos h2]
  ·rw[if_neg h2,if_neg h2,if_neg h1]
def qh (h:H a=none):aJ H (upd H a o):=λb u e=>by rw[aE (b7 e h)];exact e
def uV (h:(dL ds es)[i]? = some d):(dL ds es).take (i+1)=(dL ds es).take i++[d]:=by
 rw[List.take_add_one,h];rfl
def rN:typeLookup (.type "zip") "__len__" = pure none:=by rw[typeLookup_type,builtinLookup_eq_fast];kernel_rfl
def qi:typeLookup (.type "zip") "__length_hint__" = pure none:=by rw[typeLookup_type,builtinLookup_eq_fast];kernel_rfl
section
variable {X:Cx}{aa:AO}{σ:St}{B H0:Hp}{A:Around}{R:Result->Shared->Prop}{k1 k2:Bool}{z TI TO i1 i2 l1 l2 S:Addr}{us ws:LV}{ds es:LD}
def uX (hA:A.handled=none)(Z:ZA k1 k2 z TI TO i1 i2 l1 l2)(hS:S∉[z,TI,TO,i1,i2])(h1:ku k1 X.K B l1 us)(j1:IsL X.K B us ds)(h2:ku k2 X.K B l2 ws)(j2:IsL X.K B ws es)
  (hR:∀G N vs s',Inv X aa σ (upd G S (.lst vs)) s'->G S=none->Ext B N H0 G->IsL X.K N vs (dL ds es)->R (.ok (.ret .none)) s'):
  ∀(k i:Nat)(s:Shared)(G N:Hp)(vs:LV),(dL ds es).length - i=k->i<=(dL ds es).length->Inv X aa σ (upd G S (.lst vs)) s->G S=none->Ext B N H0 G->(∀b∈[z,TI,TO,i1,i2],iJ X aa (upd G S (.lst vs)) b) ->
   xH k1 k2 z TI TO i1 i2 l1 l2 S i s.heap->IsL X.K N vs ((dL ds es).take i) ->
   codeAny (model X.prog X.w) A (.builtin "list.extend.loop" ⟨[.ref S,.ref z,.none],[]⟩) R s:=by
 have n1:=j1.length;have n2:=j2.length;have nz:(dL ds es).length=min ds.length es.length:=by unfold dL;rw[List.length_zipWith]
 intro k;induction k with
 |zero=>
  intro i s G N vs hk hi I hc M fp st U;have qN:i=(dL ds es).length:=by omega
  have sm:aJ B (upd G S (.lst vs)):=(M.bn.trans M.nh).trans (qh hc);obtain⟨its,r1,p1,z1⟩:=(h1.same sm).vals I;obtain⟨y9,r2,p2,z2⟩:=(h2.same sm).vals I;have e1:=r1.length;have e2:=r2.length;refine codeAny_builtin PySem.F.entry_extend_loop ?_;rw[Around.under_plainId plain_extend_loop _];show wpAny _ A.in1 (pyNext (.ref z)>>=_) _ _ s;refine wX (xJ (A:=A.in1) hA Z st p1 p2 ?_ λh' O=>?_)
  ·by_cases q:ds.length<=es.length
   ·left;simp;omega
   ·right;simp;omega
  ·refine wY (hR G N vs _ (oq (t':=s.toks) I fp O) hc M ?_);rw[qN,List.take_length]at U;exact U
 |succ k ih=>
  intro i s G N vs hk hi I hc M fp st U;have wa:i<(dL ds es).length:=by omega
  have sm:aJ B (upd G S (.lst vs)):=(M.bn.trans M.nh).trans (qh hc);obtain⟨its,r1,p1,z1⟩:=(h1.same sm).vals I;obtain⟨y9,r2,p2,z2⟩:=(h2.same sm).vals I;have d1:i<ds.length:=by omega
  have d2:i<es.length:=by omega
  obtain⟨x,hx,ix⟩:=j1.get (vU d1);obtain⟨y,hy,iy⟩:=j2.get (vU d2);obtain⟨u,hu,ru⟩:=r1.get hx;obtain⟨v,hv,rv⟩:=r2.get hy;have el:(dL ds es)[i]? = some (.tup [ds[i],es[i]]):=by
   unfold dL;rw[List.getElem?_zipWith,vU d1,vU d2]
  obtain⟨zl,qM,c,Kx,Li,eS⟩:=I.lstM a8;have IG:S<s.heap.objs.size:=vX eS;refine codeAny_builtin PySem.F.entry_extend_loop ?_;rw[Around.under_plainId plain_extend_loop _];show wpAny _ A.in1 (pyNext (.ref z)>>=_) _ _ s;refine wX (xI (A:=A.in1) Z IG st p1 p2 (by simpa using hu) (by simpa using hv) λh' Hk hp O=>?_);have fr:upd G S (.lst vs) s.heap.objs.size=none:=I.hok.fresh (vT _);have nS:s.heap.objs.size≠S:=ne_of_gt IG;have IH:G s.heap.objs.size=none:=by rw[aE nS]at fr;exact fr
  have new:bH X.prog X.w (upd (upd G S (.lst vs)) s.heap.objs.size (.tup [x,y])) h' s.heap.objs.size (.tup [x,y]):=⟨by show 2<=sizeLine;decide,[u,v],.cons ru (.cons rv .nil),⟨_,hp,rfl,_,rfl⟩⟩;have I1:Inv X aa σ (upd (upd G S (.lst vs)) s.heap.objs.size (.tup [x,y])) { s with heap:=h' }:=AG (s:=s) (t':=s.toks) I fp O (vT _) new;rw[xK nS.symm]at I1;have II:h'.get? S=some { cls:=.type "list",data:=.seq qM.toArray c }:=O S _ hS eS;have T:Ext B (upd N s.heap.objs.size (.tup [x,y])) H0 (upd G s.heap.objs.size (.tup [x,y])):=M.trans (Ext.laid M.nh IH);have vl:vs.length=i:=by rw[U.length,length_take];omega
  have zs:=zl;show wpAny _ A.in1 (updateSeq S (·.push (Value.ref s.heap.objs.size))>>=_) _ _ _;refine wX ?_;have lz:(vs++[V.ref s.heap.objs.size]).length<=sizeLine:=by
   rw[vA,vl];have a1:=z1;show i+1<=sizeLine;omega
  have I2:=I1.lset (t':=s.toks) (ys:=vs++[.ref s.heap.objs.size]) (its':=qM++[.ref s.heap.objs.size]) (f:=(·.push (Value.ref s.heap.objs.size))) a8 II (by simp) (Kx.append (.cons (show aP (.ref _) (.ref _)from rfl) .nil)) lz;rw[kC]at I2;refine wpAny_updateSeq II rfl (wY ⟨plainId_quiet plain_extend_loop _,ih (i+1) _ _ _ (vs++[.ref s.heap.objs.size]) (by omega) wa I2 (by rw[aE nS.symm];exact hc) T (λb hb=>?_) (Hk.keep hS λb o hb e=>(Heap.get?_update_other _ _ (Ne.symm hb)).trans e) ?_⟩) (by simp;omega) (by simp;omega)
  ·obtain⟨f0,f1,f2,f3,f4,f5⟩:=fp b hb;refine⟨?_,f1,f2,f3,f4,f5⟩;have nb:b≠S:=λe=>hS (e ▸ hb);rw[aE nb]at f0 ⊢;have nT:b≠s.heap.objs.size:=by
    obtain⟨hI,t1,t2,a4⟩:=st;obtain⟨o1,e1,_⟩:=t1.ob;obtain⟨o2,e2,_⟩:=t2.ob;simp only[mem_cons,not_mem_nil,or_false]at hb;have lt:∀ {c o},s.heap.get? c=some o->c≠s.heap.objs.size:=λe=>vS (vX e);have hO:∃o,s.heap.get? TO=some o/\∃o,s.heap.get? z=some o:=by
     rcases a4 with⟨hz,a,b,hO⟩|⟨T0,f,oT,oO,hz,h0,n0,nS,hO⟩
     ·exact⟨_,hO,_,hz⟩
     ·exact⟨_,hO,_,hz⟩
    obtain⟨o3,e3,o4,e4⟩:=hO;rcases hb with rfl|rfl|rfl|rfl|rfl
    ·exact lt e4
    ·exact lt hI
    ·exact lt e3
    ·exact lt e1
    ·exact lt e2
   rw[aE nT];exact f0
  ·rw[uV el];exact(U.mono (Ext.laid M.nh IH).bn).append (.cons (.tup (fz.of a8) (.cons (ix.mono T.bn) (.cons (iy.mono T.bn) .nil))) .nil)
end
section
variable {X:Cx}{aa:AO}{σ:St}{B H:Hp}{s:Shared}{k1 k2:Bool}{z TI TO i1 i2 l1 l2:Addr}{us ws:LV}{ds es:LD}
def mu (hA:X.A.handled=none)(I:Inv X aa σ H s)(Z:ZA k1 k2 z TI TO i1 i2 l1 l2)(fp:∀b∈[z,TI,TO,i1,i2],iJ X aa H b)
  (hI:IsPair s.heap TI (.ref i1) (.ref i2)) (t1:iH k1 s.heap i1 l1 0) (t2:iH k2 s.heap i2 l2 0) (hz:IsZip s.heap z TI TO .none) (hO:IsPair s.heap TO a b)
  (sB:aJ B H) (h1:ku k1 X.K B l1 us) (j1:IsL X.K B us ds) (h2:ku k2 X.K B l2 ws) (j2:IsL X.K B ws es)
  (q:∀(S:Addr)(U N:Hp)(vs:LV),U S=none->Ext B N H U->IsL X.K N vs (dL ds es)->Q (.ref S) (upd U S (.lst vs))):
  wq X (call (.type "list") [.ref z]) (EP X aa σ Q) X.xe s:=by
 have lt:∀ {c o},s.heap.get? c=some o->s.heap.objs.size≠c:=λe=>ne_of_gt (vX e);have G:s.heap.objs.size∉[z,TI,TO,i1,i2]:=by
  obtain⟨o1,e1,_⟩:=t1.ob;obtain⟨o2,e2,_⟩:=t2.ob;simp only[mem_cons,not_mem_nil,or_false,not_or];exact⟨lt hz,lt hI,lt hO,lt e1,lt e2⟩
 have nz:s.heap.objs.size≠z:=lt hz;have Ky:xH k1 k2 z TI TO i1 i2 l1 l2 s.heap.objs.size 0 s.heap:=⟨hI,t1,t2,.inl ⟨hz,a,b,hO⟩⟩;have hc:H s.heap.objs.size=none:=I.fresh;refine callType_codes (Q₁:=λobj O=>obj=.ref s.heap.objs.size/\O={ s with heap:=s.heap.push { cls:=.type "list",data:=.seq #[] } }) PySem.F.called_list (PySem.F.typeCall_list_1 _) PySem.F.entry_list_init
  (code_list_new _ ⟨rfl,rfl⟩) λobj O h₁=>?_
 obtain⟨rfl,rfl⟩:=h₁;have hS:(s.heap.push { cls:=.type "list",data:=.seq #[] }).get? s.heap.objs.size=some { cls:=.type "list",data:=.seq ([]:LU).toArray }:=vY _ rfl;have I1:Inv X aa σ (upd H s.heap.objs.size (.lst [])) { s with heap:=s.heap.push { cls:=.type "list",data:=.seq #[] } }:=I.lnew (t':=s.toks) (its:=[]) .nil (uO _);have Kz:xH k1 k2 z TI TO i1 i2 l1 l2 s.heap.objs.size 0 (s.heap.push { cls:=.type "list",data:=.seq #[] }):=Ky.keep G λb o _ e=>vZ _ e;refine⟨⟨_,hS,rfl⟩,PySem.F.args_list_init_2 _ _,?_⟩;show wpAny _ _ (do let Hl ←Builtin.List.listItems (.ref s.heap.objs.size);Builtin.List.listUpdate (.ref s.heap.objs.size) (λ_=>#[]);letGo Hl.toList.reverse;Builtin.List.listExtendWith (.ref s.heap.objs.size) (.ref z) .none) _ _ _;refine wX ?_;unfold Builtin.List.listItems;refine wX (wpAny_seqItems hS rfl (wY ?_));show wpAny _ _ (updateSeq s.heap.objs.size (λ_=>#[])>>=λ_=>letGo (#[]:AV).toList.reverse>>=λ_=>Builtin.List.listExtendWith (.ref s.heap.objs.size) (.ref z) .none) _ _ _;refine wX (wpAny_updateSeq hS rfl ?_);have I2:=I1.lset (t':=s.toks) (ys:=[]) (its':=[]) (f:=λ_=>#[]) a8 hS rfl .nil (uO _);have M:=Kz.keep (h':=(s.heap.push { cls:=.type "list",data:=.seq #[] }).update s.heap.objs.size (Obj.mapSeq λ_=>(#[]:AV))) G λb o hb e=>(Heap.get?_update_other _ _ (Ne.symm hb)).trans e;rw[kC]at I2;generalize hg2:(s.heap.push { cls:=.type "list",data:=.seq #[] }).update s.heap.objs.size (Obj.mapSeq λ_=>(#[]:AV))=g2 at I2 M ⊢;obtain⟨_,K0,c2,v2,_,Ba⟩:=I2.lstM a8;have e2:=v2.zero;subst e2;refine wX (wpAny_letGo ?_);unfold Builtin.List.listExtendWith;refine wX (wpAny_typeOf (T:="zip") M.ty ?_);have K1:Builtin.List.listSameRef (.ref s.heap.objs.size) (.ref z)=false:=by simp[Builtin.List.listSameRef,nz]
 have FH:(Value.type "zip" == Value.type "list")=false:=by decide
 have FI:(Value.type "zip" == Value.type "tuple")=false:=by decide
 simp only[K1,FH,FI,Bool.or_false,uW,if_false];have F3:IsZip g2 z TI TO .none:=by
  rw[←hg2];exact(Heap.get?_update_other _ _ nz).trans (vZ _ hz)
 refine wX (wpAny_pyIter_zip F3 ?_);refine wX (wpAny_holding ?_);unfold Builtin.List.listLengthHint;refine wX (wpAny_specialOf (T:="zip") M.ty rN ?_);show wpAny _ _ (specialOf (Value.ref z) (Str.ofString "__length_hint__")>>=_) _ _ _;refine wX (wpAny_specialOf (T:="zip") M.ty qi ?_);refine wY ?_;show wpAny _ _ (rule "list.extend.makes-room" >>= λ_=>Builtin.List.listTouch (.ref s.heap.objs.size)>>=λ_=>
  again (.builtin "list.extend.loop" ⟨[.ref s.heap.objs.size,.ref z,.none],[]⟩)) _ _ _
 refine wX (wpAny_rule ?_);refine wX ?_;show wpAny _ _ (updateSeq s.heap.objs.size (·.push .none)>>=λ_=>updateSeq s.heap.objs.size (·.pop)) _ _ _;refine wX (wpAny_updateSeq Ba rfl ?_);have I3:=I2.lset (t':=s.toks) (ys:=[.non]) (its':=[.none]) (f:=(·.push .none)) a8 Ba rfl (.cons (show aP .non .none from rfl) .nil) (by show 1<=sizeLine;decide);have E9:=M.keep (h':=g2.update s.heap.objs.size (Obj.mapSeq (·.push .none))) G λb o hb e=>(Heap.get?_update_other _ _ (Ne.symm hb)).trans e;rw[kC]at I3;generalize hg3:g2.update s.heap.objs.size (Obj.mapSeq (·.push .none))=g3 at I3 E9 ⊢;obtain⟨_,K2,c3,v3,_,F7⟩:=I3.lstM a8;obtain⟨n3,rfl,r3⟩:=v3.one;cases r3
 refine wpAny_updateSeq (hz:=by simp<;>decide) F7 rfl ?_
 have I4:=I3.lset (t':=s.toks) (ys:=[]) (its':=[]) (f:=(·.pop)) a8 F7 rfl .nil (uO _);have K3:=E9.keep (h':=g3.update s.heap.objs.size (Obj.mapSeq (·.pop))) G λb o hb e=>(Heap.get?_update_other _ _ (Ne.symm hb)).trans e;rw[kC]at I4;refine wY ⟨plainId_quiet plain_extend_loop _,uX (A:=X.A.in1) (B:=B) (H0:=H) hA Z G h1 j1 h2 j2 (λU N vs s' I' Fq xt il=>?_) _ 0 _ H B [] rfl (uO _) I4 hc (Ext.refl sB) (λb hb=>?_) K3 .nil⟩
 ·exact⟨rfl,.ref s.heap.objs.size,_,I',rfl,q _ U N vs Fq xt il⟩
 ·obtain⟨f0,f1⟩:=fp b hb;refine⟨?_,f1⟩;have nb:b≠s.heap.objs.size:=λe=>G (e ▸ hb);rw[aE nb];exact f0
end
@[simp] def HC (G M:FE):FE:=λρ=>(uB G M ρ).map λds=>(.lst ds,true)
section
variable {X:Cx}{a b:Expr}{pos p pos2 p2:Pos}
def rO (Hn:X.calm=true)(hl:X.mg "list" = none)(hm:X.mg "zip" = none)(ha:JE X a fa)(hb:JE X b fb)(K4:Gl X "list":=by rfl)(hg:Gl X "zip":=by rfl)
  (hs:starEach [a,b] X.env=[(false,eval a X.env),(false,eval b X.env)]:=by rfl) (M:starEach [b] X.env=[(false,eval b X.env)]:=by rfl)
  (FI:starEach [.Call (.Name "zip" p2) [a,b] [] pos2] X.env=[(false,eval (.Call (.Name "zip" p2) [a,b] [] pos2) X.env)]:=by rfl):
  JE X (.Call (.Name "list" p) [.Call (.Name "zip" p2) [a,b] [] pos2] [] pos) (HC fa fb):=by
 intro aa s σ H Q I q;obtain⟨B,ρ,d,bb,sB,r,G,se⟩:=q;obtain⟨zs,IJ,e2⟩:=oY G;cases e2
 clear G;have G:=IJ;clear IJ;obtain⟨x1,ex,G⟩:=oX G;obtain⟨y1,ey,G⟩:=oX G;obtain⟨xs,K5,G⟩:=oX G;obtain⟨ys,K6,G⟩:=oY G;subst G;refine wpAny_Call_Name_kw (gg I K4 hl lf ?_ (by decide) (by decide));refine PyProof.Rows.callWith_type1 ?_ (by rw[FI];rfl) rfl;rw[FI];show wpAny _ _ (spliced ((false,eval (.Call (.Name "zip" p2) [a,b] [] pos2) X.env)::backTo pos [])) _ _ s;refine Calls.spliced_cons ?_;refine wpAny_Call_Name_kw (gg I hg hm AH ?_ (by decide) (by decide));refine PyProof.Rows.callWith_type1 (bN (ac ha (ac hb aj M) (by rw[hs,M]) pos2 aa s σ H (λvs H1=>∃N1,Ext B N1 H H1/\IsL X.K N1 vs [x1.1,y1.1]) I ⟨B,ρ,[x1.1,y1.1],sB,r,by simp[ae,ak,ex,ey],λvs H1 N1 U i1=>⟨N1,U,i1⟩⟩) λus s1 ⟨vs,H1,I1,r1,N1,U,il⟩=>?_) (by rw[hs,M]) (by rw[M];rfl);cases il with
 |cons j1 j2=>
  cases j2 with
  |cons j2 j3=>
   cases j3
   obtain⟨k1,l1,Lj,rfl,h1,m1⟩:=td j1 K5;obtain⟨k2,l2,Lk,rfl,h2,m2⟩:=td j2 K6;obtain⟨u1,u2,rfl,ES,GW⟩:=r1.two;cases ES
   cases GW
   obtain⟨its,v1,p1,z1⟩:=(h1.same U.nh).vals I1;obtain⟨y9,v2,p2,z2⟩:=(h2.same U.nh).vals I1;have zV:=p1.lt;have O:=p2.lt;refine sY p1 p2 λh' c1 c2 c3 c4 c5 ck=>?_;have D:ZApart (s1.heap.objs.size+4) (s1.heap.objs.size+2) (s1.heap.objs.size+3) s1.heap.objs.size (s1.heap.objs.size+1):=by
    constructor<;>(intro z;exact absurd z (by first|exact vS (Nat.add_lt_add_left (by decide) _)|exact ne_of_gt (Nat.add_lt_add_left (by decide) _)|exact vS (Nat.lt_add_of_pos_right (by decide))|exact ne_of_gt (Nat.lt_add_of_pos_right (by decide))))
   have nf:∀ {l:Addr}(n:Nat),l<s1.heap.objs.size->l≠s1.heap.objs.size+n:=λn hl=>vS (vQ hl (le_add_right _ n));refine Calls.spliced_nil ?_;refine mu (s:={ s1 with heap:=h' }) (k1:=k1) (k2:=k2) (B:=N1) (H:=H1) (I1.ok.hd Hn) (I1.kept (t':=s1.toks) ck) ⟨D,⟨nf 4 zV,nf 3 zV,nf 0 zV⟩,⟨nf 4 O,nf 3 O,nf 0 O,nf 1 O⟩⟩ (λb hb=>?_) c2 c4 c5 c1 c3 U.nh h1 m1 h2 m2 λS Hc N vs hS T il2=>?_
   ·have CL:s1.heap.objs.size<=b:=by
     simp at hb;rcases hb with rfl|rfl|rfl|rfl|rfl
     ·exact le_add_right _ 4
     ·exact le_add_right _ 2
     ·exact le_add_right _ 3
     ·exact vT _
     ·exact le_add_right _ 1
    exact I1.fpOk CL (I1.hok.fresh CL)
   ·have x3:=(U.trans T).trans (Ext.laid (o:=.lst vs) T.nh hS);have IK:=il2.mono (Ext.laid (o:=.lst vs) T.nh hS).bn;exact se _ _ _ x3 (.lst (dZ.of a8) IK) λ_=>⟨_,_,_,rfl,rfl,(U.trans T).hh.free hS,a8,IK⟩
end
end DL
namespace L2
open PySem PySem.Spec PyProof.Rows
noncomputable def zP (lo c:Int)(n:Nat):It:=⟨λi _=>i<n,λi H x H'=>H'=H/\x=.int (lo+i*c),λi _=>n<=i⟩
def qj {P:Program}{w:World}{K:Frag}{tg:Expr}(it:Addr)(lo c:Int)(n:Nat):Turn P w K tg (zP lo c n) [it] it (λi h=>IsRangeIter h it (lo+(i:Nat)*c) ((n:Int) - (i:Nat)) c) where
 mem:=by simp
 obj:=λi h st b hb=>by
  have e:b=it:=by simpa using hb
  subst e;exact⟨_,st,λv z=>by
   have z':Data.fields _=Data.cell v:=z;cases z'⟩
 keep:=λi h h' st k=>k it (by simp) _ st
 item:=by
  intro X M O T hc i aa s σ H E I hf st U;subst M O T;obtain⟨f0,f1,f2,f3,f4,f5⟩:=hf it (by simp);have W:=Walks.range (prog:=X.prog) (w:=X.w) (I.ok.hd hc) it lo c n;refine W.item i s _ _ U st λv h' tk hv G kk=>?_;obtain⟨t,rfl⟩:=hv;have I1:Inv X aa σ H { s with heap:=h',toks:=tk }:=I.turned (λb o hb e=>kk b o (by simpa using hb) e) f0 f1 f3 f4 f5;exact⟨_,rfl,kQ (s:={ s with heap:=h',toks:=tk }) (n:="range_iterator") G rfl rfl (by decide) ⟨.int (lo+i*c),H,I1,⟨t,rfl⟩,⟨rfl,rfl⟩,G,λb hb=>(hf b hb).1⟩⟩
 done:=by
  intro X M O T hc i aa s σ H E I hf st U;subst M O T;obtain⟨f0,f1,f2,f3,f4,f5⟩:=hf it (by simp);exact wpAny_pyNext_range_end (I.ok.hd hc) st (by have:n<=i:=U;omega) λh' eb=>⟨rfl,I.turned (t':=s.toks) (λb o hb e=>eb b o hb e) f0 f1 f3 f4 f5⟩
 self:=λ_ _ _ _ _ st h=>wpAny_pyIter_rangeiter st h
section
variable {X:Cx}{tg:Expr}
def qk (ha : -1000<=a/\a<=1000/\-1000<=b/\b<=1000)(hc:c=1∨c=2∨c=3∨c = -1):Builtin.Range.small a b c=true/\0<=Builtin.Range.rangeSize a b c:=by
 unfold Builtin.Range.small Builtin.Range.rangeSize Builtin.Range.rangeFitsLong;rcases hc with rfl|rfl|rfl|rfl
 all_goals
  simp only[vD,Bool.or_eq_true,decide_eq_true_eq,beq_iff_eq,show(1:Int) > 0 by decide,show(2:Int) > 0 by decide,show(3:Int) > 0 by decide,show ¬(-1:Int) > 0 by decide,show -(-1:Int)=1 by decide,if_true,if_false]
  split<;>omega
def va {aa:AO}{σ:St}{H:Hp}{s:Shared}{R:It->Hp->Prop}{E:QV}{lo hi c:Int}{t u v:Tok}{G:Nat}(I:Inv X aa σ H s)(h1 : -1000<=lo/\lo<=1000/\-1000<=hi/\hi<=1000)(h2:c=1∨c=2∨c=3∨c = -1)
  (q:R (zP lo c (Builtin.Range.rangeSize lo hi c).toNat) H):wq X (pyIter (.ref s.heap.objs.size)) (FQ X aa σ tg R) E { s with heap:=s.heap.push { cls:=.type "range",data:=.fields #[.int lo t,.int hi u,.int c v] },toks:=G }:=by
 obtain⟨hs,hz⟩:=qk h1 h2;refine wpAny_pyIter_range (IsRange.new ..) hs ?_;have M:Inv X aa σ H { s with heap:=s.heap.push { cls:=.type "range",data:=.fields #[.int lo t,.int hi u,.int c v] },toks:=G }:=I.kept λb o e=>vZ _ e;refine⟨(s.heap.push { cls:=.type "range",data:=.fields #[.int lo t,.int hi u,.int c v] }).objs.size,[(s.heap.push { cls:=.type "range",data:=.fields #[.int lo t,.int hi u,.int c v] }).objs.size],_,_,H,rfl,
  M.kept (t':=G) λb o e=>vZ _ e,qj _ lo c (Builtin.Range.rangeSize lo hi c).toNat,?_,λb hb=>?_,q⟩
 ·have O:lo+((0:Nat):Int)*c=lo:=by simp
  have T:(((Builtin.Range.rangeSize lo hi c).toNat:Nat):Int) - ((0:Nat):Int)=Builtin.Range.rangeSize lo hi c:=by omega
  show IsRangeIter _ _ (lo+((0:Nat):Int)*c) ((((Builtin.Range.rangeSize lo hi c).toNat:Nat):Int) - ((0:Nat):Int)) c;rw[O,T];exact vY _ rfl
 ·have e:b=(s.heap.push { cls:=.type "range",data:=.fields #[.int lo t,.int hi u,.int c v] }).objs.size:=by simpa using hb
  subst e;exact M.fpOk (vT _) (M.hok.fresh (vT _))
def El (ta:TA):TI:=λσ H R=>ta σ H λvs G=>∃i j c:Int,vs=[.int i,.int j,.int c]/\((-1000<=i/\i<=1000/\-1000<=j/\j<=1000)/\(c=1∨c=2∨c=3∨c = -1))/\R (zP i c (Builtin.Range.rangeSize i j c).toNat) G
def vc (U:Gl X "range")(hm:X.mg "range" = none)(ha:PA X [a,b,c] ta)(hs:starEach [a,b,c] X.env=(false,eval a X.env)::starEach [b,c] X.env)(M:starEach [b,c] X.env=[(false,eval b X.env),(false,eval c X.env)]):
  PI X tg (.Call (.Name "range" p) [a,b,c] [] pos) (El ta):=by
 intro aa s σ H R I h;refine Call_ (gg I U hm boot_range (PyProof.Rows.callWith_type1 (bN (ha pos aa s σ H _ I h) λus s1 ⟨vs,H1,I1,r1,O⟩=>?_) hs (by rw[M];rfl)));obtain⟨i,j,c,e,⟨O,q2⟩,q⟩:=O;subst e;cases r1 with
 |cons r G=>
  cases G with
  |cons r' G=>
   cases G with
   |cons T G=>
    cases G
    obtain⟨t,rfl⟩:=r;obtain⟨t',rfl⟩:=r';obtain⟨Ll,rfl⟩:=T;exact call_range_3 (by omega) (va I1 O q2 q) (Or.inl (PyProof.noPylong_small (by omega)))
end
end L2
namespace DL
open PySem PySem.Spec PySem.W PyProof.Rows L2
section
variable {X:Cx}{a b c:Expr}{p pos:Pos}
noncomputable def jJ (lo c:Int)(n:Nat):LD:=(List.range n).map λ(k:Nat)=>.int (lo+(k:Int)*c)
def ve {K:Frag}{B:Hp}(lo c:Int)(n:Nat):kq K (zP lo c n) B (jJ lo c n):=by
 intro i H s;unfold jJ;refine⟨λd ed=>?_,λhl=>by rw[vI,length_range]at hl;exact hl⟩;rw[vB]at ed;obtain⟨k,M,ed⟩:=oY ed;have hk:=vV M;obtain⟨G,hk⟩:=hk;rw[length_range]at G;rw[getElem_range]at hk;subst hk;subst ed;refine⟨G,λx H' hy=>?_⟩;obtain⟨rfl,rfl⟩:=hy;exact⟨B,.refl s,.int _⟩
@[simp] def jg (f g h:FE):FA:=λρ=>(f ρ).bind λx=>(g ρ).bind λy=>(h ρ).bind λz=>match x.1,y.1,z.1 with
 |.int i,.int j,.int c=>if(-1000<=i/\i<=1000/\-1000<=j/\j<=1000)/\(c=1∨c=2∨c=3∨c = -1)then some (jJ i c (Builtin.Range.rangeSize i j c).toNat)else none
 |_,_,_=>none
def vf (hm:X.mg "range" = none)(ja:JE X a f)(jb:JE X b g)(jc:JE X c h)(hg:Gl X "range":=by rfl)(hs:starEach [a,b,c] X.env=(false,eval a X.env)::starEach [b,c] X.env:=by rfl)(M:starEach [b,c] X.env=[(false,eval b X.env),(false,eval c X.env)]:=by rfl)(O:starEach [c] X.env=[(false,eval c X.env)]:=by rfl):PI X tg (.Call (.Name "range" p) [a,b,c] [] pos) (DP X.K (jg f g h)):=by
 refine PI.to (vc hg hm (ac ja (ac jb (ac jc aj O) (by rw[M,O])) hs) hs M) λσ H R q=>?_;obtain⟨B,ρ,ds,sB,r,G,q⟩:=q;obtain⟨⟨x,xb⟩,ex,G⟩:=oX G;obtain⟨⟨y,yb⟩,T,G⟩:=oX G;obtain⟨⟨z,zb⟩,U,G⟩:=oX G;match x,y,z,ex,T,U,G with
 |.int i,.int j,.int k,ex,T,U,G=>
  dsimp only at G;split at G
  ·rename_i hj;cases G
   refine⟨B,ρ,[.int i,.int j,.int k],sB,r,by simp[ae,ak,ex,T,U],λvs H1 N1 x1 i1=>?_⟩;cases i1 with
   |cons i1 i2=>
    cases i1
    cases i2 with
    |cons i2 i3=>
     cases i2
     cases i3 with
     |cons i3 i4=>
      cases i3;cases i4
      exact⟨i,j,k,rfl,hj,q _ H1 N1 x1 λ_=>ve i k _⟩
  ·cases G
end
end DL
namespace L2
open PySem PySem.Spec PyProof.Rows
def KV.get {bx:List (iI×V)}{vs:List (iI×Value)}(r:KV bx vs){i:Nat}{k:iI}{x:V}(h:bx[i]? = some (k,x)):∃u,vs[i]? = some (k,u)/\aP x u:=by
 unfold KV at r;induction r generalizing i with
 |nil=>simp at h
 |@cons p q ps T hq t G=>
  cases i with
  |zero=>
   cases (show p=(k,x)from vK h)
   obtain⟨M,O⟩:=q;exact⟨O,by rw[show k=M from hq.1];rfl,hq.2⟩
  |succ i=>exact G h
end L2
namespace DL
open PySem PySem.Spec PyProof.Rows L2
@[simp] abbrev ca (i:Nat)(j:Int):FE:=f2 bB (ag i) (fC (.int j))
def bS (F:Fn X.prog X.w X.K X.mg X.base k x f)(O:dY j X.A)(ha:JA X (e::es) fa)(hj:k<=j:=by decide)(T:Gl X x:=by rfl)(G:(x == ("__debug__" : Str))=false:=by decide)(he:starEach (e::es) X.env=(false,eval e X.env)::starEach es X.env:=by rfl)(M:(backTo pos (starEach es X.env)).any (·.1)=false:=by rfl):JE X (.Call (.Name x p) (e::es) [] pos) (fA f fa):=sE F (O.mono hj) ha T G he M
def Em (h1:∀y∈scope.names,y.2≠.cell:=by decide +kernel)(h2:scope.kind=.function:=by rfl)(h3:∀y∈scope.names,y.2=.local->scope.names.lookup y.1=some .local:=by decide +kernel)(G:(scope.names.all λy=>!(y.2 == NameKind.free) || (X.env.cells.lookup y.1).isSome)=true:=by rfl):CompSc X scope (cR scope.names X.env.cells []):=BL h1 h2 h3 G
def HD (h1:N'[j]? = some x)(h2:X.N[i]? = some x)(t:jy X N' scope (cR scope.names X.env.cells []) (j+1) r)(h3:X.env.kindOf x=some .cell∨X.env.kindOf x=some .free:=by exact Or.inl rfl)(h4:(relabel scope X.env).names.lookup x=some .cell∨(relabel scope X.env).names.lookup x=some .free:=by exact Or.inl rfl)(hf:(x,NameKind.free)∈scope.names:=by decide +kernel)(hc:(X.env.cells.lookup x).isSome=true:=by rfl):jy X N' scope (cR scope.names X.env.cells []) j (i::r):=.cons h1 h2 h3 h4 (zn hf hc) t
end DL
namespace DL
open PySem PySem.Spec PySem.W PyProof.Rows L2
def Gr:D->Option (List At)
 |.tup [.int n,.tup es]=>(eT es).map (.i n :: ·)
 |_=>none
def AQ:LD->Option (List (List At))
 |[]=>some []
 |d::ds=>(Gr d).bind λa=>(AQ ds).map (a :: ·)
@[simp] abbrev Gs:FE->(Env->D->Option D)->FE:=xB AQ λ_=>true
end DL
namespace DL
open PySem PySem.Spec PyProof.Rows L2
def En:Nat->(LU->Prop)->Prop
 |0,P=>P []
 |n+1,P=>∀a,En n λl=>P (a::l)
theorem Cj:∀n P,En n P->∀us:LU,us.length=n->P us
 |0,_,h,[],_=>h
 |n+1,_,h,a::us,e=>Cj n _ (h a) us (Nat.succ.inj e)
section
variable {P:Program}{w:World}{K:Frag}{mg:SV}{base:Heap}
def KC (K:Frag)(mg:SV)(x:Str)(c:D):Prop:=∃u v,mg x=some u/\aP v u/\∀B,Is K B v c
def KD (w:World)(K:Frag)(mg:SV)(x:Str)(c:List (Str×D)):Prop:=∃d,mg x=some (.ref d)/\iU K w.params d c
def kc_of {x:Str}{c:D}{h:Heap}(X:K.In h)(G:h.Ns mainGlobals mg)(k:∃u v,nsIn K mainGlobals x=some (some u)/\aP v u/\∀B,Is K B v c):KC K mg x c:=let ⟨u,v,e,r⟩:=k;⟨u,v,mg_of X G e,r⟩
def kd_of {x:Str}{c:List (Str×D)}{h:Heap}(X:K.In h)(G:h.Ns mainGlobals mg)(k:∃d,nsIn K mainGlobals x=some (some (.ref d))/\iU K w.params d c):KD w K mg x c:=let ⟨d,e,r⟩:=k;⟨d,mg_of X G e,r⟩
def dO.fqL {x:Str}{st:Stmt}{k:Nat}{O:LD->OB}(F:dO K x st)(B:∃h,K.In h/\h.Ns mainGlobals mg)(g:FS)(N:LS)(n:Nat)
  (hb:∀ {f:Addr}{cC:Value}{A:Around}{outer:List PySem.Env}{s:Shared}{H:Hp}{E:XK},N.Nodup->dY k (A.deeper (envOfC x (aD st) s.heap.objs.size f cC))->(A.deeper (envOfC x (aD st) s.heap.objs.size f cC)).units+40<cLine->(∀c P,PySem.W.tabIn K x=some (c,P)->cC=.ref c)->md (kn rg P w K mg base N x (aD st) f cC A outer s H E).nox (bK st) g)
  (S:FnScope N (N.take n) (aD st):=by refine⟨rfl,rfl,rfl,?_,rfl,?_,?_⟩<;>decide +kernel)
  (M:∀(kV doc pm:Value)(an:Option Addr)(cC ct:Value)(us:LU),us.length=(N.take n).length->bindArgs (fnOf x x (dB st) (bK st) (aD st) .none kV doc pm an cC ct) ⟨us,[]⟩=pure ((N.take n).zip us):=by
   exact λ_ _ _ _ _ _=>Cj _ _ (by(repeat intro);rfl))
  (e:aN g (N.take n).length (N.length - (N.take n).length)=O:=by rfl):
  Fn P w K mg base (k+1) x O:=let ⟨_,X,G⟩:=B;e ▸ F.fnL X G S M λ_ _ _ _ _ _ _ hc T=>hb S.nd T (DW T) hc
def dO.fq {x:Str}{st:Stmt}{k:Nat}{M:LD->OB}(F:dO K x st)(B:∃h,K.In h/\h.Ns mainGlobals mg)(g:FS)(N:LS)(n:Nat)
  (hb:∀ {f:Addr}{cC:Value}{A:Around}{outer:List PySem.Env}{s:Shared}{H:Hp}{E:XK},N.Nodup->dY k (A.deeper (envOfC x (aD st) s.heap.objs.size f cC))->(A.deeper (envOfC x (aD st) s.heap.objs.size f cC)).units+40<cLine->md (kn rg P w K mg base N x (aD st) f cC A outer s H E).nox (bK st) g)
  (S:FnScope N (N.take n) (aD st):=by refine⟨rfl,rfl,rfl,?_,rfl,?_,?_⟩<;>decide +kernel)
  (G:∀(kV doc pm:Value)(an:Option Addr)(cC ct:Value)(us:LU),us.length=(N.take n).length->bindArgs (fnOf x x (dB st) (bK st) (aD st) .none kV doc pm an cC ct) ⟨us,[]⟩=pure ((N.take n).zip us):=by
   exact λ_ _ _ _ _ _=>Cj _ _ (by(repeat intro);rfl))
  (e:aN g (N.take n).length (N.length - (N.take n).length)=M:=by rfl):
  Fn P w K mg base (k+1) x M:=F.fqL B g N n (λn r u _=>hb n r u) S G e
end
section
variable {X:Cx}{x:Str}{pos:Pos}
def vN (i:Nat)(G:X.N.Nodup)(hi:X.N[i]? = some x:=by rfl)(hx:yI X.env.scope x:=by first|exact Or.inl rfl|exact Or.inr rfl)(hf:X.fn x=true∨X.env.scope.names.lookup x=some .local:=by first|exact .inl rfl|exact .inr rfl):PG X (.Name x pos) (g9 i):=sn G hi hx hf
def Df {fp}(i:Nat)(G:N'.Nodup:=by decide +kernel)(hi:(fJ X N' scope cl C s H fp).N[i]? = some x:=by rfl)(hx:yI (fJ X N' scope cl C s H fp).env.scope x:=by exact Or.inl rfl)(hf:(fJ X N' scope cl C s H fp).fn x=true∨(fJ X N' scope cl C s H fp).env.scope.names.lookup x=some .local:=by first|exact .inl rfl|exact .inr rfl):PG (fJ X N' scope cl C s H fp) (.Name x pos) (g9 i):=sn G hi hx hf
def kc (N':LS)(hi:JI X tg dA fi)(hc:∀ {C s H fp},JC (fJ X N' scope (cR scope.names X.env.cells []) C s H fp) sg fc)(he:∀ {C s H fp},JE (fJ X N' scope (cR scope.names X.env.cells []) C s H fp) oV fe)
  (M:A9 X.K nT kL g:=by first|exact pj (by decide)|exact AF (by decide)) (O:∀ {C s H fp},PG (fJ X N' scope (cR scope.names X.env.cells []) C s H fp) tg g:=by intros;first|exact Df 0|exact nJ rfl (dG (Df 0) (dG (Df 1) kF)))
  (T:jy X N' scope (cR scope.names X.env.cells []) nT cap:=by repeat first|exact .nil rfl|refine HD rfl rfl ?_)
  (S:CompSc X scope (cR scope.names X.env.cells []):=by exact Em) (G:X.calm=true:=by rfl)
  (hs:∀x,foldedSetIterable dA X.env x=pure x:=by intro _;rfl):
  JE X (.ListComp oV [⟨tg,dA,sg,0⟩] scope pos) (cD fi nT cap kL fc fe):=zp G S T hi (λ_ _ _ _=>O) M (λ_ _ _ _=>hc) (λ_ _ _ _=>he) hs
def xL (N':LS)(U:X.N.Nodup)(hi:JI X tg dA fi)(hc:∀ {C s H fp},JC (fJ X N' scope (cR scope.names X.env.cells []) C s H fp) sg fc)(he:∀ {C s H fp},JE (fJ X N' scope (cR scope.names X.env.cells []) C s H fp) oV fe)
  (M:A9 X.K nT kL g:=by first|exact pj (by decide)|exact AF (by decide)) (hg:∀ {C s H fp},PG (fJ X N' scope (cR scope.names X.env.cells []) C s H fp) tg g:=by intros;first|exact Df 0|exact nJ rfl (dG (Df 0) (dG (Df 1) kF)))
  (cp:jy X N' scope (cR scope.names X.env.cells []) nT cap:=by repeat first|exact .nil rfl|refine HD rfl rfl ?_)
  (O:X.N[i]? = some y:=by rfl) (hy:X.env.kindOf y=some .local:=by rfl)
  (T:swapsWith (.ListComp oV [⟨tg,dA,sg,0⟩] scope pos) (some (.Name y py)) spos.line X.env=pure true:=by rfl)
  (S:CompSc X scope (cR scope.names X.env.cells []):=by exact Em) (G:X.calm=true:=by rfl)
  (hs:∀x,foldedSetIterable dA X.env x=pure x:=by intro _;rfl):
  JS X (.Assign [.Name y py] (.ListComp oV [⟨tg,dA,sg,0⟩] scope pos) spos) (bf i (cD fi nT cap kL fc fe)):=zq G U O hy T S cp hi (λ_ _ _ _=>hg) M (λ_ _ _ _=>hc) (λ_ _ _ _=>he) hs
def nj (hi:JI X tg dA fi)(G:PG X tg t)(M:zk X.K kL t)(hb:md X body g)(O:PassesOwn (model X.prog X.w) X.A X.env X.xe:=by exact PassesOwn.never)(hc:X.calm=true:=by rfl)
  (hs:∀x,foldedSetIterable dA X.env x=pure x:=by intro _;rfl):JS X (.For tg dA body [] pos) (gk fi kL g):=BR O hc hi G M hb hs
def tE (hi:PI X tg dA (DP X.K fi))(G:PG X tg t)(M:zk X.K kL t)(hb:md X body g)(O:PassesOwn (model X.prog X.w) X.A X.env X.xe:=by exact PassesOwn.never)(hc:X.calm=true:=by rfl)
  (hs:∀x,foldedSetIterable dA X.env x=pure x:=by intro _;rfl):JS X (.For tg dA body [] pos) (fR fi kL g):=zw O hc hi G M hb hs
end
@[simp] abbrev fV (i:Nat)(g:FA):FA:=ae (ag i) g
@[simp] abbrev fI (n:Int):FE:=fC (.int n)
@[simp] abbrev fS (s:PySem.Str):FE:=fC (.str s)
section
variable {X:Cx}{es:QD}{g:FA}{pos:Pos}
def aU {x:Str}{p:Pos}(i:Nat)(G:JA X es g)(M:PE X (.Name x p) (mf i):=by exact pv)
  (hs:starEach (.Name x p::es) X.env=(false,eval (.Name x p) X.env)::starEach es X.env:=by rfl):JA X (.Name x p::es) (fV i g):=ac (ah i M) G hs
def df {i:Int}{j:Nat}(G:JA X es g):JA X (.Constant (.int i) j pos::es) (ae (fC (.int i)) g):=ac ar G
def bc (F:Fn X.prog X.w X.K X.mg X.base k x f)(O:dY j X.A)(ha:JA X (e::es) g:=by repeat first|exact aj|refine aU _ ?_|refine ac aw ?_)(hj:k<=j:=by decide)(T:Gl X x:=by rfl)(G:(x == ("__debug__" : Str))=false:=by decide)(he:starEach (e::es) X.env=(false,eval e X.env)::starEach es X.env:=by rfl)(M:(backTo pos (starEach es X.env)).any (·.1)=false:=by rfl):JE X (.Call (.Name x p) (e::es) [] pos) (fA f g):=sE F (O.mono hj) ha T G he M
def bd (he:JE X e f):md X [.Return (some e) pos] (aM f):=b8 (wL he)
def bE {c:Expr}{G:FT}(hc:JT X c G)(he:JE X e f):JS X (.If c [.Return (some e) p] [] pos) (dh G (aM f) aV):=gC hc (b8 (wL he)) fL
def aT (i:Nat)(G:PE X (.Name x p) (mf i):=by exact pv):JE X (.Subscript (.Name x p) (.Constant (.int n) j q) pos) (ca i n):=bj (ah i G) ar
end
@[simp] def HE (f:FE)(i:Nat):FS:=λρ=>match ρ[i]? with
 |some (some (.lst ds,true))=>(f ρ).bind λx=>if aZ x.1=true then some (.rt (.tup [x.1,.lst ds]) true)else none
 |_=>none
def cb.forget {K:Frag}(s:cb K B0 H0 N H σ ρ)(hs:aJ H H')(i:Nat)(v:V):cb K B0 H0 N H' (σ.set i (some v)) (ρ.set i none):=by
 have o:∀a,own (σ.set i (some v)) (ρ.set i none) a->own σ ρ a:=λa q=>by
  rcases iN q with⟨_,d',p⟩|⟨j,_,d',M,O⟩
  ·cases p
  ·exact⟨j,d',M,O⟩
 have c:aJ (cg N (own σ ρ)) (cg N (own (σ.set i (some v)) (ρ.set i none))):=cQ λa u e q=>⟨e,λz=>q (o a z)⟩;have g:∀ {j:Nat}{e:D}{b:Bool},(ρ.set i none)[j]? = some (some (e,b))->i≠j/\ρ[j]? = some (some (e,b)):=λ{j e b} q=>by
  rcases bu q with⟨_,p⟩|p
  ·cases p
  ·exact p
 refine⟨s.bh,s.tb,⟨s.ext.hh.trans hs,s.ext.bn,s.ext.nh.trans hs,s.ext.new⟩,by simp[s.len],λj e q=>?_,λj e q=>?_,λj k a e f q T h1 h2=>?_⟩
 ·obtain⟨ne,p⟩:=g q;obtain⟨w,h1,h2⟩:=s.sh j e p;exact⟨w,by rw[vC ne];exact h1,h2.mono c⟩
 ·obtain⟨ne,p⟩:=g q;obtain⟨a,o,h1,h2,h3,h4⟩:=s.ow j e p;exact⟨a,o,by rw[vC ne];exact h1,h2,h3,h4.mono c⟩
 ·obtain⟨ne,p⟩:=g q;obtain⟨G,U⟩:=g T;rw[vC ne]at h1;rw[vC G]at h2;exact s.inj j k a e f p U h1 h2
@[simp] noncomputable def Fl (j:Nat):D×Bool->Option LD
 | (.tup ds,true)=>match ds[j]? with
  |some (.lst es)=>some es
  |_=>none
 |_=>none
@[simp] def KU (i:Nat)(f:FE)(G:FT)(M:FS)(c2:FT)(j:Nat)(fe:FE)(h2:FS):FS:=λρ=>(f (eM ρ)).bind λx=>match G (ρ.set i (some (x.1,false))) with
 |some true=>match M (ρ.set i (some (x.1,false))) with
  |some (.rt d b)=>some (.rt d b)
  |_=>none
 |some false=>match c2 (ρ.set i (some (x.1,false))) with
  |some false=>some (.nx (ρ.set i (some (x.1,false))))
  |some true=>(Fl j x).bind λes=>(fe (ρ.set i (some (x.1,false)))).bind λy=>if i<ρ.length/\es.length<sizeLine then h2 (ρ.set i none)else none
  |none=>none
 |none=>none
@[simp] def Ck (i:Nat)(f:FE)(k:Nat)(h:FE)(G:FT)(M:FS)(c2:FT)(j:Nat)(fe:FE)(h2:FS):FS:=λρ=>(f (eM ρ)).bind λx=>(h (eM (ρ.set i none))).bind λy=>match G ((ρ.set i (some (x.1,false))).set k (some (y.1,false))) with
 |some true=>match M ((ρ.set i (some (x.1,false))).set k (some (y.1,false))) with
  |some (.rt d b)=>some (.rt d b)
  |_=>none
 |some false=>match c2 ((ρ.set i (some (x.1,false))).set k (some (y.1,false))) with
  |some false=>some (.nx ((ρ.set i (some (x.1,false))).set k (some (y.1,false))))
  |some true=>(Fl j x).bind λes=>(fe ((ρ.set i (some (x.1,false))).set k (some (y.1,false)))).bind λ_=>if i<ρ.length/\i≠k/\es.length<sizeLine then h2 ((ρ.set i none).set k (some (y.1,false)))else none
  |none=>none
 |none=>none
def cb.onH {K:Frag}(s:cb K B0 H0 N H σ ρ)(hh:aJ H0 H')(nh:aJ N H'):cb K B0 H0 N H' σ ρ:=⟨s.bh,s.tb,⟨hh,s.ext.bn,nh,s.ext.new⟩,s.len,s.sh,s.ow,s.inj⟩
def cb.two {K:Frag}{v w:V}{dx O:D}(s:cb K B0 H0 N H σ ρ)(i k:Nat)(T:Ext (cg N (own σ ρ)) N1 H H1)(i1:Is K N1 v dx)(G:Ext (cg N (own (σ.set i (some v)) (ρ.set i none))) N2 H1 H2)(i2:Is K N2 w O):∃N',cb K B0 H0 N' H2 ((σ.set i (some v)).set k (some w)) ((ρ.set i (some (dx,false))).set k (some (O,false))):=by
 obtain⟨s1,c⟩:=s.growH T;have s2:=s1.bind (i:=i) (i1.mono c);generalize hM:join N N1=M at s1 s2 c;have U:aJ M H1:=s1.ext.nh;have nm:aJ N M:=by rw[←hM];exact cm
 have x3:Ext M (join M N2) H1 H2:=by
  refine⟨G.hh,cm,λa o e=>?_,λa o e=>?_⟩
  ·unfold join at e;split at e
   ·rename_i u q;cases e
    exact G.hh _ _ (U _ _ q)
   ·exact G.nh _ _ e
  ·unfold join at e;split at e
   ·rename_i u q;cases e
    exact .inl q
   ·rename_i q;rcases G.new a o e with z|z
    ·exact .inl (nm _ _ (fP z).2)
    ·exact .inr z
 have s3:=s2.grow x3;refine⟨_,s3.bind (i:=k) (i2.mono λb o e=>?_)⟩;have hj:join M N2 b=some o:=by
  unfold join;split
  ·rename_i u q;have h1:=G.hh _ _ (U _ _ q);rw[G.nh _ _ e]at h1;exact h1.symm
  ·exact e
 rw[bO λz=>?_]
 ·exact hj
 ·rcases iN z with⟨_,d',p⟩|⟨j,ne,d',q1,q2⟩
  ·cases p
  ·have oA:own (σ.set i (some v)) (ρ.set i none) b:=⟨j,d',by rw[vC (Ne.symm ne)];exact q1,by rw[vC (Ne.symm ne)];exact q2⟩;rcases G.new b o e with z|z
   ·exact(fP z).1 oA
   ·obtain⟨o',⟨n1,_⟩,_⟩:=s.owned ⟨j,d',q1,q2⟩;rw[T.hh _ _ (s.ext.nh _ _ n1)]at z;cases z
def Cm {K:Frag}(q:j7 K (Ck i f k h c1 g1 c2 j fe h2) E σ H):qQ (qS (tD K f) (g9 i)) (qQ (qS (tD K h) (g9 k)) (qQ (qR (nU K c1) (j7 K g1) kP) (qR (nU K c2) (qQ (A0 (Hy K "list" nR (D0 (DD K) (mf i) (tC (.int j))) (wo (tD K fe) B7))) (j7 K h2)) kP))) E σ H:=by
 obtain⟨B0,H0,ρ,r,⟨N,s⟩,e,p⟩:=q;obtain⟨x,ex,e⟩:=oX e;obtain⟨y0,K7,e⟩:=oX e;refine⟨cg N (own σ ρ),eM ρ,x.1,x.2,bi.trans s.ext.nh,s.repH,ex,λv H1 N1 U i1 f1=>?_⟩;have sA:=s.forget U.hh i v;show qQ (qS (tD K h) (g9 k)) _ E (σ.set i (some v)) H1;refine⟨cg N (own (σ.set i (some v)) (ρ.set i none)),eM (ρ.set i none),y0.1,y0.2,bi.trans sA.ext.nh,sA.repH,K7,λw H2 N2 O i2 f2=>?_⟩;obtain⟨M,s2⟩:=s.two i k U i1 O i2;obtain⟨sB,cB⟩:=sA.growH O;have sC:=sB.bind (i:=k) (i2.mono cB);show qR (nU K c1) (j7 K g1) kP { E with nx:=qR (nU K c2) _ kP E } ((σ.set i (some v)).set k (some w)) H2;split at e
 ·rename_i ec;split at e
  ·rename_i d b eg;cases e
   refine⟨_,_,true,s2.ext.nh,s2.rep,ec,λH3 h=>?_⟩;show j7 K g1 _ _ _;exact⟨B0,H0,_,_,.grown s2 h,eg,p⟩
  ·cases e
 ·rename_i ec;refine⟨_,_,false,s2.ext.nh,s2.rep,ec,λH3 h=>?_⟩;show qR (nU K c2) _ kP E ((σ.set i (some v)).set k (some w)) H3;split at e
  ·rename_i G;cases e
   refine⟨_,_,false,s2.ext.nh.trans h,s2.rep,G,λH4 h'=>?_⟩;exact p _ _ (.grown s2 (h.trans h'))
  ·rename_i G;obtain⟨es,T,e2⟩:=oX e;obtain⟨y,ey,e3⟩:=oX e2;split at e3
   ·rename_i hc;refine⟨_,_,true,s2.ext.nh.trans h,s2.rep,G,λH4 h'=>?_⟩;have hh:=h.trans h';obtain⟨xd,xb⟩:=x;unfold Fl at T;split at T
    ·rename_i ds z;cases z
     split at T
     ·rename_i JV ej;cases T
      obtain⟨t,vs,rfl,hT,hs,hl⟩:=f1 rfl;obtain⟨a,us,ea,ha,hn,iu⟩:=hl j es ej;have n2:H1 a=some (.lst us):=U.nh _ _ hn;have n3:H4 a=some (.lst us):=hh _ _ (O.hh _ _ n2);refine⟨.ref t,by rw[vC (Ne.symm hc.2.1),getElem?_set_self (by rw[←s.len];exact hc.1)],t,vs,j,.ref a,rfl,rfl,aL ((U.nh.trans O.hh).trans hh) hT,?_,.inl ⟨rfl,us,dZ.of n3⟩,_,_,y.1,y.2,s2.ext.nh.trans hh,s2.rep,ey,λw' H5 N5 x5 i5 _=>⟨a,us,w',rfl,rfl,x5.hh _ _ n3,by rw[iu.length];exact hc.2.2,?_⟩⟩
      ·have hj:j<vs.length:=(vV ea).1;unfold kT uo;rw[if_pos (by omega),if_pos (by omega)];exact ea
      ·have IL:aJ H2 H5:=hh.trans x5.hh;refine⟨B0,H0,_,r,⟨_,sC.onH (λb o q=>?_) λb o q=>?_⟩,e3,p⟩
       ·have q':H b=some o:=s.ext.hh _ _ q;rw[aE (λz=>by subst z;rw[ha]at q';cases q')];exact IL _ _ (O.hh _ _ (U.hh _ _ q'))
       ·have q2:H2 b=some o:=sC.ext.nh _ _ q;rw[aE (λz=>?_)]
        ·exact IL _ _ q2
        ·subst z;unfold join at q;split at q
         ·rename_i u q3;rw[s.ext.nh _ _ q3]at ha;cases ha
         ·rcases O.new _ _ q with z|z
          ·rw[s.ext.nh _ _ (fP z).2]at ha;cases ha
          ·rw[n2]at z;cases z
     ·cases T
    ·cases T
   ·cases e3
  ·cases e
 ·cases e
section
variable {X:Cx}{e eh:Expr}
def Eo (i k j:Nat)(nd:X.N.Nodup)(he:JE X e f)(hy:JE X eh h)(h1:JT X e1 c1)(k1:md X b1 g1)(h2:JT X e2 c2)(ha:JE X ea fe)(k2:md X b2 g2)(hi:X.N[i]? = some x:=by rfl)(hx:yI X.env.scope x:=by first|exact Or.inl rfl|exact Or.inr rfl)(hs:swapsWith e (some (.Name x p)) pos.line X.env=pure false:=by rfl)
  (hf:X.fn x=true∨X.env.scope.names.lookup x=some .local:=by first|exact .inl rfl|exact .inr rfl) (U:X.N[k]? = some x':=by rfl) (K8:yI X.env.scope x':=by first|exact Or.inl rfl|exact Or.inr rfl) (EJ:swapsWith eh (some (.Name x' p')) pos'.line X.env=pure false:=by rfl)
  (K9:X.fn x'=true∨X.env.scope.names.lookup x'=some .local:=by first|exact .inl rfl|exact .inr rfl) (hv:Dl X.env.scope x:=by first|exact Or.inl rfl|exact Or.inr (Or.inl rfl)|exact Or.inr (Or.inr rfl)) (hd:(x == ("__debug__" : Str))=false:=by decide)
  (CF:(x == ("__classdict__" : Str))=false:=by decide)
  (G:attributeBase (.Subscript (.Name x p1) (.Constant (.int j) k0 p2) p3) "append" X.env (eval (.Subscript (.Name x p1) (.Constant (.int j) k0 p2) p3) X.env)=eval (.Subscript (.Name x p1) (.Constant (.int j) k0 p2) p3) X.env:=by rfl)
  (O:((backTo fy (starEach [ea] X.env)).all (λx=>!x.1) && (backToKw fy (keywordEach [] X.env)).all (λx=>x.1.isSome)
   && decide ([ea].length+([]:List Keyword).length+(if([]:List Keyword).isEmpty then 0 else 1)<30))=true:=by rfl)
  (M:(kB.endLine == fy.line)=true:=by rfl) (T:starEach [ea] X.env=[(false,eval ea X.env)]:=by rfl) (GQ:swapsWith (.Call (.Attribute (.Subscript (.Name x p1) (.Constant (.int j) k0 p2) p3) "append" kB) [ea] [] fy) none p5.line X.env=pure false:=by rfl):
  md X [.Assign [.Name x p] e pos,.Assign [.Name x' p'] eh pos',.If e1 b1 [] p4,.If e2 (.Expr (.Call (.Attribute (.Subscript (.Name x p1) (.Constant (.int j) k0 p2) p3) "append" kB) [ea] [] fy) p5::b2) [] p6] (Ck i f k h c1 g1 c2 j fe g2) :=
 me.to (gJ (qT nd hi hx he hs hf) (gJ (qT nd U K8 hy EJ K9) (gJ (we h1 k1 nG) (sk (we h2 (gJ (nH (mB plainAttrs_list PySem.F.slot_list_append PySem.F.type_list_append j6 (sw rd (qP hi hv hd CF) wc (by intro _ _;rfl)) (cy ha dP T) G O M T rfl) GQ) k2) nG))))) λ_ _ _ q=>Cm q
end
@[simp] def xM (f g:FE):FE:=λρ=>(f ρ).bind λx=>(g ρ).bind λy=>match y with
 | (.lst ds,true)=>if aZ x.1=true then some (.tup [x.1,.lst ds],true)else none
 |_=>none
def zQ {X:Cx}{e O:Expr}{T}(he:JE X e f)(hg:JE X O g)(hs:starEach [e,O] X.env=(false,eval e X.env)::starEach [O] X.env:=by rfl)(FH:starEach [O] X.env=(false,eval O X.env)::starEach [] X.env:=by rfl):JE X (.Tuple [e,O] T pos) (xM f g):=by
 refine PE.to (wt (cy he (cy hg dP FH) hs)) λσ H Q q=>?_;obtain⟨B,ρ,d',bb,sB,r,G,q⟩:=q;obtain⟨x,ex,G⟩:=oX G;obtain⟨y,ey,G⟩:=oX G;split at G
 ·rename_i ds;split at G
  ·rename_i hx;cases G
   refine⟨B,ρ,x.1,x.2,sB,r,ex,λv H1 N1 T i1 _=>⟨N1,ρ,_,_,T.nh,r.mono T.bn,ey,λw H2 N2 x2 i2 f2=>⟨(by decide:2<=sizeLine),λt ht=>?_⟩⟩⟩;obtain⟨a,vs,F5,rfl,z,h3,h4,h5⟩:=f2 rfl;cases z
   have U:=Ext.laid (o:=HO.tup [v,.ref a]) x2.nh ht;have i4:=h5.mono U.bn;have n4:=U.bn _ _ h4;have i5:IsL X.K (upd N2 t (.tup [v,.ref a])) [v,.ref a] [x.1,.lst ds]:=.cons (i1.mono (x2.bn.trans U.bn)) (.cons (.lst (dZ.of n4) i4) .nil);refine q _ _ _ (T.trans (x2.trans U)) (.tup (fz.of a8) i5) λ_=>⟨t,_,rfl,fz.of a8,i5,λj es M=>?_⟩;match j,M with
   |0,M=>simp at M;rw[M]at hx;simp at hx
   |1,M=>simp at M;subst M;exact⟨a,vs,rfl,T.hh.free h3,n4,i4⟩
  ·cases G
 ·cases G
end DL
namespace L2
open PySem PySem.Spec PyProof.Rows
noncomputable def Gu (K:Frag)(a:Addr)(xs:List V):It:=⟨λi H=>dZ K H a xs/\i<xs.length,λi H v H'=>H'=H/\xs[xs.length - 1 - i]? = some v,λi H=>dZ K H a xs/\xs.length<=i⟩
def xN {P:Program}{w:World}{K:Frag}{tg:Expr}(a it:Addr)(xs:List V):Turn P w K tg (Gu K a xs) [it] it (λi h=>i<=xs.length/\h.IsRevIter it a ((xs.length:Int) - 1 - (i:Int))) where
 mem:=by simp
 obj:=λi h st b hb=>by
  have e:b=it:=by simpa using hb
  subst e;obtain⟨_,o,e,c,d⟩:=st;exact⟨o,e,λv z=>by rw[d]at z;cases z⟩
 keep:=λi h h' st k=>⟨st.1,st.2.at λo e=>k it (by simp) o e⟩
 item:=by
  intro X O T U hc i aa s σ H E I hf st hg;subst O T U;obtain⟨hq,hi⟩:=hg;obtain⟨x,hx⟩:∃x,xs[xs.length - 1 - i]? = some x:=⟨_,vU (by omega)⟩;obtain⟨its,rv,p,hz⟩:=I.list hq;obtain⟨u,hu,ru⟩:=rv.get hx;obtain⟨f0,f1,f2,f3,f4,f5⟩:=hf it (by simp);have G:=st.2;rw[show(xs.length:Int) - 1 - (i:Int)=((xs.length - 1 - i:Nat):Int) by omega]at G;refine wpAny_pyNext_rev_item G p.isList (x:=u) (by simpa using hu) λh' M sb=>?_;have I1:Inv X aa σ H { s with heap:=h' }:=I.turned (t':=s.toks) (λb o hb e=>(sb.2 b hb).trans e) f0 f1 f3 f4 f5;obtain⟨o,e,c,d⟩:=id M;refine⟨u,rfl,kQ (s:={ s with heap:=h' }) e c d (by decide) ⟨x,H,I1,ru,⟨rfl,hx⟩,⟨by omega,?_⟩,λb hb=>(hf b hb).1⟩⟩;rw[show(xs.length:Int) - 1 - ((i+1:Nat):Int)=((xs.length - 1 - i:Nat):Int) - 1 by omega];exact M
 done:=by
  intro X O T U hc i aa s σ H E I hf st hg;subst O T U;obtain⟨hq,hx⟩:=hg;obtain⟨f0,f1,f2,f3,f4,f5⟩:=hf it (by simp);have G:=st.2;rw[show(xs.length:Int) - 1 - (i:Int) = -1 by have:=st.1;omega]at G;exact wpAny_pyNext_rev_end (I.ok.hd hc) G λh' eb=>⟨rfl,I.turned (t':=s.toks) (λb o hb e=>eb b o hb e) f0 f1 f3 f4 f5⟩
 self:=λ_ _ _ _ _ st h=>wpAny_pyIter_revIter st.2 h
end L2
namespace DL
open PySem PySem.Spec PyProof.Rows L2
def rP:bootBuiltins "reversed" = some (.type "reversed"):=by decide +kernel
@[simp] noncomputable def zR (G:FE):FA:=λρ=>(G ρ).bind λx=>match x.1 with
 |.lst ds=>some ds.reverse
 |_=>none
def Cn {K:Frag}{N:Hp}{l:Addr}{vs:LV}{ds:LD}(h1:dZ K N l vs)(i1:IsL K N vs ds):kq K (Gu K l vs) N ds.reverse:=by
 intro i H' G;have n1:=i1.length;refine⟨λd ed=>?_,λhl=>⟨G.seq h1,by rw[List.length_reverse]at hl;omega⟩⟩;have hi:i<ds.length:=by have:=(vV ed).1;rwa [List.length_reverse]at this
 rw[List.getElem?_reverse hi]at ed;obtain⟨v,M,iv⟩:=i1.get ed;refine⟨⟨G.seq h1,by omega⟩,λr H2 hy=>?_⟩;obtain⟨rfl,e⟩:=hy;rw[show vs.length - 1 - i=ds.length - 1 - i by omega,M]at e;cases e
 exact⟨N,.refl G,iv⟩
section
variable {X:Cx}{a e:Expr}{pos p:Pos}
def Co {fa:FE}(hm:X.mg "reversed" = none)(ha:JE X a fa)(hg:Gl X "reversed":=by rfl)(hs:starEach [a] X.env=[(false,eval a X.env)]:=by rfl):
  JI X tg (.Call (.Name "reversed" p) [a] [] pos) (zR fa):=by
 intro aa s σ H R I q;refine Call_ (gg I hg hm rP (PyProof.Rows.callWith_type1 (bN (ac ha aj hs pos aa s σ H (λvs M=>∃(l:Addr)(us:LV),vs=[.ref l]/\dZ X.K M l us/\R (Gu X.K l us) M) I ?_) λus s1 ⟨vs,M,T,r1,q1⟩=>?_) hs rfl))
 ·obtain⟨B,ρ,ds,sB,r,U,q⟩:=q;obtain⟨⟨xd,xb⟩,ex,U⟩:=oX U;cases xd<;>try (cases U;done)
  rename_i ds0;cases U
  refine⟨B,ρ,[.lst ds0],sB,r,by simp[ae,ak,ex],λvs M N1 xt i1=>?_⟩;cases i1 with
  |cons j1 j2=>
   cases j2
   cases j1
   rename_i l O h m1;exact⟨l,O,rfl,xt.nh.seq h,q _ M N1 xt (Cn h m1)⟩
 ·obtain⟨l,O,rfl,h1,q⟩:=q1;obtain⟨u1,rfl,ES⟩:=r1.one;cases ES
  obtain⟨its,v1,p1,z1⟩:=T.list h1;refine call_reversed_list p1.isList ?_;have G:Heap.IsRevIter (s1.heap.push (revObj l ((its.toArray.size:Int) - 1))) s1.heap.objs.size l ((its.toArray.size:Int) - 1):=⟨_,vY _ rfl,rfl,rfl⟩;refine wpAny_pyIter_revIter (s:={ s1 with heap:=s1.heap.push (revObj l ((its.toArray.size:Int) - 1)) }) G ⟨s1.heap.objs.size,[s1.heap.objs.size],_,_,M,rfl,T.kept (t':=s1.toks) λb o e=>vZ _ e,xN l s1.heap.objs.size O,⟨uO _,?_⟩,λb hb=>?_,q⟩
  ·rw[vH,←v1.length]at G;rw[show(O.length:Int) - 1 - ((0:Nat):Int)=(O.length:Int) - 1 by omega];rw[vH,←v1.length];exact G
  ·have e:b=s1.heap.objs.size:=by simpa using hb
   subst e;exact T.fpOk (vT _) (T.hok.fresh (vT _))
def Cp (K:Frag):V->LV->Hp->VK->Prop:=λx vs H Q=>∃(l:Addr)(ns:LI)(n:Int),x=.ref l/\vs=[.int n]/\dZ K H l (ns.map V.int)/\ns.findIdx (· == n)<ns.length/\Q (.int (ns.findIdx (· == n):Nat)) H
def xO:Gc X "list.index" (Cp X.K):=by
 intro aa s σ H x vs v us Q I rx rv h;obtain⟨l,ns,n,rfl,rfl,hH,hk,q⟩:=h;cases rx
 obtain⟨u,rfl,⟨t,rfl⟩⟩:=rv.one;obtain⟨its,r,⟨o,m,e,hc,O,hd⟩,z⟩:=I.list hH;have hi:=l7 r;have hl:=r.length;rw[vI]at hl z;have at':∀(i:Nat)(G:i<its.length),∃t',its[i]=.int (ns[i]'(by omega)) t':=λi G=>by
  obtain⟨t',M⟩:=IntsAre.int_at hi i its[i] (by simp);exact⟨t',by rw[M,vF,vU (by omega)];rfl⟩
 have hj:ns.findIdx (· == n)<its.toArray.size:=by simp only[vH];omega
 obtain⟨oc,od,Lm,kK⟩:=o;dsimp only at hc O hd;subst hc O hd;have hz:sizeLine<2 ^ 63 - 1:=by decide
 refine call_meets PySem.F.slot_list_index ⟨_,e,rfl⟩ PySem.F.entry_list_index (PySem.F.args_list_index_2 _ _)
  (PySem.SeqAt.list_indexAt l its.toArray m none kK (.int n t) (Ej n) (ns.findIdx (· == n)) hj (by omega) ?_ (λi G T=>?_)) ⟨e,λy hy=>?_,?_⟩
 ·obtain⟨t',M⟩:=at' (ns.findIdx (· == n)) (by omega);simp only[List.getElem_toArray];rw[M];exact List.findIdx_getElem (p:=(· == n)) (w:=hk)
 ·have U:i<its.length:=by simpa using G
  obtain⟨t',M⟩:=at' i U;simp only[List.getElem_toArray];rw[M];have:=List.not_of_lt_findIdx (p:=(· == n)) (xs:=ns) T;simpa [Ej]using this
 ·have KA:y∈its:=by simpa using hy
  obtain⟨i,G,rfl⟩:=List.mem_iff_getElem.mp KA;obtain⟨t',M⟩:=at' i G;rw[M];exact(MeetsSeq.EqGives.int _ _ _ _).at _ _
 ·exact⟨.int (ns.findIdx (· == n):Nat),H,I.tok _,⟨_,rfl⟩,q⟩
@[simp] def gu:D->D->OB
 |.lst ds,.int n=>(gD ds).bind λns=>if ns.findIdx (· == n)<ns.length then some (.int (ns.findIdx (· == n):Nat),false)else none
 |_,_=>none
def ql {O G:Pos}{fa f:FE}(ha:JE X a fa)(he:JE X e f)(T:attributeBase a "index" X.env (eval a X.env)=eval a X.env:=by rfl)
  (yB:((backTo G (starEach [e] X.env)).all (λx=>!x.1) && (backToKw G (keywordEach [] X.env)).all (λx=>x.1.isSome)
   && decide ([e].length+([]:List Keyword).length+(if([]:List Keyword).isEmpty then 0 else 1)<30))=true:=by rfl)
  (U:(O.endLine == G.line)=true:=by rfl) (hs:starEach [e] X.env=[(false,eval e X.env)]:=by rfl):JE X (.Call (.Attribute a "index" O) [e] [] G) (f2 gu fa f):=by
 refine PE.to (mB plainAttrs_list PySem.F.slot_list_index PySem.F.type_list_index xO ha (cy he dP hs) T yB U hs rfl) λσ H Q q=>?_;obtain⟨B,ρ,d,bb,sB,r,M,se⟩:=q;obtain⟨⟨xd,xb⟩,ex,M⟩:=oX M;obtain⟨⟨yd,yb⟩,ey,M⟩:=oX M;cases xd<;>try (cases M;done)
 rename_i ds;cases yd<;>try (cases M;done)
 rename_i n;obtain⟨ns,en,M⟩:=oX M;split at M
 ·rename_i hk;cases M
  refine⟨B,ρ,_,_,sB,r,ex,λv H1 N1 x1 i1 f1=>?_⟩;clear f1;cases i1
  rename_i l ws h m1;have ew:=xy m1 en;subst ew;refine⟨.inl ⟨rfl,_,x1.nh.seq h⟩,N1,ρ,_,_,x1.nh,r.mono x1.bn,ey,λw H2 N2 x2 i2 _=>?_⟩;cases i2
  have IM:=x1.trans x2;exact⟨l,ns,n,rfl,rfl,x2.nh.seq (x2.bn.seq h),hk,(se.into IM).one IM.nh (.int _)⟩
 ·cases M
end
end DL
namespace DL
open PySem L2
def jh (I:Nat->Env->Prop)(ds:LD)(M:Env)(h0:I 0 M)
  (step:∀i d ρ,ds[i]? = some d->I i ρ->∃G ρ',tg d ρ=some G/\(g G=some (.nx ρ')∨g G=some (.ct ρ'))/\I (i+1) ρ'):
  ∃ρ',bL tg g ds M=some (.nx ρ')/\I ds.length ρ':=by
 have O:∀(es:LD)(i:Nat)(ρ:Env),ds.drop i=es->i+es.length=ds.length->I i ρ->∃ρ',bL tg g es ρ=some (.nx ρ')/\I ds.length ρ':=by
  intro es;induction es with
  |nil=>intro i ρ e hl h;refine⟨ρ,by rw[wE],?_⟩;rw[←hl];exact h
  |cons d es U=>
   intro i ρ e hl h;have hd:ds[i]? = some d:=by
    have:(ds.drop i)[0]? = some d:=by rw[e];rfl
    rwa [List.getElem?_drop,Nat.add_zero]at this
   obtain⟨G,ρ',h1,h2,h3⟩:=step i d ρ hd h;have he:ds.drop (i+1)=es:=by rw[←List.drop_drop,e];rfl
   obtain⟨T,k1,k2⟩:=U (i+1) ρ' he (by simp at hl;omega) h3;refine⟨T,?_,k2⟩;rw[fQ,h1];rcases h2 with h2|h2<;>simp only[vJ,h2]<;>exact k1
 exact O ds 0 M (by simp) (by simp) h0
def ji (n:Nat)(I:Nat->Env->Prop)(G:Env)(h0:I 0 G)
  (step:∀(i:Nat) ρ,i<n->I i ρ->∃M ρ',tg (.int (i:Int)) ρ=some M/\(g M=some (.nx ρ')∨g M=some (.ct ρ'))/\I (i+1) ρ'):
  ∃ρ',bL tg g (dU 0 n) G=some (.nx ρ')/\I n ρ':=by
 have hl:(dU 0 n).length=n:=by simp[dU]
 obtain⟨ρ',h1,h2⟩:=jh (tg:=tg) (g:=g) I (dU 0 n) G h0 λi d ρ hd h=>by
  unfold dU at hd;rw[vB]at hd;obtain⟨k,hk,hd⟩:=oY hd;obtain⟨O,hk⟩:=vV hk;rw[length_range]at O;rw[getElem_range]at hk;subst hk;rw[Int.zero_add]at hd;subst hd;exact step i ρ O h
 rw[hl]at h2;exact⟨ρ',h1,h2⟩
def l8 {α:Type}{xs:List α}{j:Nat}(h:j<xs.length):kT xs (j:Int)=some xs[j]:=yY (by simp[h])
def oF {α:Type}{xs:List α}{i:Int}(h0:0<=i)(h:i.toNat<xs.length):kT xs i=some xs[i.toNat]:=by
 have:=l8 h;rwa [Int.toNat_of_nonneg h0]at this
@[simp] def gO (xs:LI):bA (xs.map D.int)=true:=by
 induction xs with
 |nil=>simp
 |cons x xs G=>simp[G]
@[simp] def mv (n:Nat)(xs:LI):(xs.map D.int).all (aA n)=true:=by
 induction xs with
 |nil=>simp
 |cons x xs G=>simpa using G
@[simp] def zS (xs:LI):(xs.map D.int).all cO=true:=by
 induction xs with
 |nil=>simp
 |cons x xs G=>simpa using G
def nn (n:Nat):dU 0 n=((List.range n).map λ(k:Nat)=>(k:Int)).map D.int:=by
 unfold dU;rw[map_map];apply List.map_congr_left;intro k _;simp
mutual
def jj:D->D->Bool
 |.non,.non=>true
 |.bl a,.bl b=>a == b
 |.int a,.int b=>decide (a=b)
 |.str a,.str b=>decide (a=b)
 |.ty a,.ty b=>decide (a=b)
 |.tup xs,.tup ys=>lA xs ys
 |.lst xs,.lst ys=>lA xs ys
 |_,_=>false
def lA:LD->LD->Bool
 |[],[]=>true
 |x::xs,y::ys=>jj x y && lA xs ys
 |_,_=>false
end
mutual
theorem tF:∀ {x y:D},jj x y=true->x=y
 |.non,.non,_=>rfl
 |.bl a,.bl b,h=>by simp[jj]at h;rw[h]
 |.int a,.int b,h=>by simp[jj]at h;rw[h]
 |.str a,.str b,h=>by simp[jj]at h;rw[h]
 |.ty a,.ty b,h=>by simp[jj]at h;rw[h]
 |.tup xs,.tup ys,h=>by rw[jj]at h;rw[lB h]
 |.lst xs,.lst ys,h=>by rw[jj]at h;rw[lB h]
theorem lB:∀ {xs ys:LD},lA xs ys=true->xs=ys
 |[],[],_=>rfl
 |x::xs,y::ys,h=>by
  rw[lA,vD]at h;rw[tF h.1,lB h.2]
end
def HF (r:OB)(d:D)(b:Bool):Bool:=match r with
 |some (e,c)=>jj e d && c == b
 |none=>false
def aX (h:HF r d b=true):r=some (d,b):=by
 unfold HF at h;split at h
 ·rw[vD]at h;rw[tF h.1,eq_of_beq h.2]
 ·cases h
section
variable {f:FE}{c:FT}{g g' h:FS}{ρ ρ':Env}{i:Nat}{d:D}{b:Bool}{r:Option Res}{ds:LD}
def av (hl:ds.length=n)(e:g (ds.map (λd=>some (d,false))++List.replicate k none)=some (.rt d b)):aN g n k ds=some (d,b):=by
 unfold aN;rw[if_pos hl,e]
def no (n:aZ d=true):setE ρ i d b=ρ.set i (some (d,false)):=by unfold setE;rw[if_pos n]
def qm (n:bA ds=true):setE ρ i (.lst ds) true=ρ.set i (some (.lst ds,true)):=by
 unfold setE;rw[if_neg (by simp),if_pos ⟨rfl,by simpa using n⟩]
def AR (e:f ρ=some (d,b))(k:h (setE ρ i d b)=r):aC (bf i f) h ρ=r:=by simp[e];exact k
def bt (e:f ρ=some (d,b))(n:aZ d=true)(k:h (ρ.set i (some (d,false)))=r):aC (bf i f) h ρ=r:=AR e (by rw[no n];exact k)
def cP (e:f ρ=some (.lst ds,true))(n:bA ds=true)(k:h (ρ.set i (some (.lst ds,true)))=r):aC (bf i f) h ρ=r:=AR e (by rw[qm n];exact k)
def e8 (e:g ρ=some (.nx ρ'))(k:h ρ'=r):aC g h ρ=r:=by unfold aC;rw[e];exact k
def oG (e:g ρ=some (.rt d b)):aC g h ρ=some (.rt d b):=by unfold aC;rw[e]
def Gv (e:g ρ=some (.ct ρ')):aC g h ρ=some (.ct ρ'):=by unfold aC;rw[e]
def kz (e:c ρ=some true)(k:g ρ=r):dh c g g' ρ=r:=by unfold dh;rw[e];exact k
def mw (e:c ρ=some false)(k:g' ρ=r):dh c g g' ρ=r:=by unfold dh;rw[e];exact k
def cf (e:c ρ=some true)(k:g ρ=some (.rt d b)):aC (dh c g g') h ρ=some (.rt d b):=oG (kz e k)
def ax (e:c ρ=some false)(k:h ρ=r):aC (dh c g aV) h ρ=r:=e8 (mw e rfl) k
def a9 (e:f ρ=some (d,b)):aM f ρ=some (.rt d b):=by simp[e]
def kH (e:ρ[i]? = some (some (d,b)))(hb:A7 d=false:=by rfl):iO i ρ=some (.rt d b):=by simp only[iO,e,hb];simp
def jk (e:f ρ=some (d,b))(n:aZ d=true):bf i f ρ=some (.nx (ρ.set i (some (d,false)))):=by
 show(f ρ).map _=_;rw[e,map_some,no n]
def zU (e:f ρ=some (.lst ds,true))(n:bA ds=true):bf i f ρ=some (.nx (ρ.set i (some (.lst ds,true)))):=by
 show(f ρ).map _=_;rw[e,map_some,qm n]
def lC (e:ρ[i]? = some (some (.lst ds,true)))(G:f ρ=some (d,b))(n:aZ d=true)(l:ds.length<sizeLine):j8 i f ρ=some (.nx (ρ.set i (some (.lst (ds++[d]),true)))):=by
 simp[e,G,n,l]
def tG (e:ρ[i]? = some (some (.lst ds,true)))(G:f ρ=some (d,b))(n:aZ d=true)(l:ds.length<sizeLine)(k:h (ρ.set i (some (.lst (ds++[d]),true)))=r):aC (j8 i f) h ρ=r:=e8 (lC e G n l) k
def gP (e:fi ρ=some ds)(k:bL tg g ds ρ=some (.nx ρ')):fR fi tg g ρ=some (.nx ρ'):=by unfold fR;rw[e];exact k
def hW (e:fi (eM ρ)=some ds)(k:bL tg g ds ρ=some (.nx ρ')):gk fi tg g ρ=some (.nx ρ'):=by unfold gk;rw[e];exact k
def eK {f:FE}{j:Nat}(e:f ρ=some (.int j,b))(hj:j<=1000):dj f ρ=some (dU 0 j):=by
 unfold dj;rw[e];simp only[];rw[if_pos (by omega)];simp
def aB (e:f ρ=some (.bl x,b)):br f ρ=some x:=by unfold br;rw[e]
def af (e:fa ρ=some ds)(k:F ds=x):fA F fa ρ=x:=by unfold fA;rw[e,vJ];exact k
def fZ {f1 G:D->D->OB}{M O T:FE}{x y z:D}{b1 b2 b3 b4 p q:Bool}(U:M ρ=some (x,b1))(eb:O ρ=some (y,b2))(ec:T ρ=some (z,b3))(e1:f1 x y=some (.bl p,b4))(e2:p=true->G y z=some (.bl q,false)):dR f1 G M O T ρ=some (.bl (p && q),false):=by
 unfold dR;rw[U,eb,ec];simp only[vJ,e1];cases p
 ·rfl
 ·exact e2 rfl
def da {f1 f2:FE}{p q b1:Bool}(G:f1 ρ=some (.bl p,b1))(M:p=true->f2 ρ=some (.bl q,false)):gG f1 f2 ρ=some (.bl (p && q),false):=by
 unfold gG;rw[G];cases p
 ·rfl
 ·exact M rfl
def AS {f1 f2:FE}{p q b1:Bool}(G:f1 ρ=some (.bl p,b1))(M:p=false->f2 ρ=some (.bl q,false)):BN f1 f2 ρ=some (.bl (p || q),false):=by
 unfold BN;rw[G];cases p
 ·exact M rfl
 ·rfl
def tH {f1:FE}{p b1:Bool}(G:f1 ρ=some (.bl p,b1)):u4 f1 ρ=some (.bl (!p),false):=by
 unfold u4;rw[G]
def au (G:f ρ=some (d,b))(M:fr ρ=some xs):ae f fr ρ=some (d::xs):=by
 unfold ae;rw[G,vJ,M,vJ]
def a7 (G:fa ρ=some (x,b1))(M:fb ρ=some (y,b2))(O:op x y=z):f2 op fa fb ρ=z:=by
 unfold f2;rw[G,vJ,M,vJ];exact O
def tI (G:c1 ρ=some p)(M:p=true->c2 ρ=some q):jV c1 c2 ρ=some (p && q):=by
 unfold jV;rw[G];cases p
 ·rfl
 ·exact M rfl
def bG (G:c1 ρ=some p)(M:p=false->c2 ρ=some q):cj c1 c2 ρ=some (p || q):=by
 unfold cj;rw[G];cases p
 ·exact M rfl
 ·rfl
def c7 (G:c1 ρ=some p):bV c1 ρ=some (!p):=by
 unfold bV;rw[G];rfl
end
def zV (a c:Nat):decide ([a]<[c])=decide (a<c):=by
 congr 1;rw[cons_lt_cons_iff];simp
@[simp] def tJ (a c:Nat):og (.str ⟨#[a]⟩) (.str ⟨#[c]⟩)=some (.bl (decide (a<=c)),false):=by
 unfold og;show some (D.bl (!decide ([c]<[a])),false)=_;rw[zV];congr 3;by_cases h:c<a
 ·rw[decide_eq_true h,decide_eq_false (by omega)];rfl
 ·rw[decide_eq_false h,decide_eq_true (by omega)];rfl
def bP (h:n<=100000):n<sizeLine:=lt_of_le_of_lt h (by decide)
def db (h:n<=100000):n<=sizeLine:=le_of_lt (bP h)
def zW:FS :=
  (aC (bf 3 (fA c8 ak))
  (aC (bf 4 (f2 bF (f2 bC (f2 bC (f2 gI (f2 bF (ag 0) (fC (.int 2147483647))) (fC (.int 48271))) (f2 gI (f2 gI (ag 1) (ag 1)) (fC (.int 69621)))) (fC (.int 11))) (fC (.int 2147483647))))
  (aC (fR (dj (ag 2)) (eI 5) (aC (bf 4 (f2 bF (f2 bC (f2 bC (f2 bC (f2 gI (ag 4) (ag 4)) (f2 gI (fC (.int 48271)) (ag 4))) (ag 5)) (ag 1)) (fC (.int 2147483647))))
  (j8 3 (ag 4))))
  (iO 3))))
def jK (c k:Int)(n:Nat)(hk:0<=k/\k<=1000)(hn:n<=1000):∃xs:LI,aN zW 3 3 [.int c,.int k,.int n]=some (.lst (xs.map .int),true)/\xs.length=n/\∀x∈xs,0<=x/\x<2147483647:=by
 have k1 : -18446744073709551616<k:=by omega
 have k2:k<18446744073709551616:=by omega
 have run:∀(G:Int),0<=G->G<2147483647->∃(ρ':DL.Env),bL (eI 5) (aC (bf 4 (f2 bF (f2 bC (f2 bC (f2 bC (f2 gI (ag 4) (ag 4)) (f2 gI (fC (.int 48271)) (ag 4))) (ag 5)) (ag 1)) (fC (.int 2147483647))))
  (j8 3 (ag 4))) (dU 0 n) [some (.int c,false),some (.int k,false),some (.int n,false),some (.lst [],true),some (.int G,false),none]=some (.nx ρ')/\∃(xs:LI)(m:Int)(v:OB),(ρ'=[some (.int c,false),some (.int k,false),some (.int n,false),some (.lst (xs.map .int),true),some (.int m,false),v]/\xs.length=n/\∀x∈xs,0<=x/\x<2147483647):=by
  intro G h0 h1;obtain⟨ρ',e,xs,m,v,h⟩:=ji (tg:=eI 5) (g:=aC (bf 4 (f2 bF (f2 bC (f2 bC (f2 bC (f2 gI (ag 4) (ag 4)) (f2 gI (fC (.int 48271)) (ag 4))) (ag 5)) (ag 1)) (fC (.int 2147483647)))) (j8 3 (ag 4))) n (λi ρ=>∃(xs:LI)(m:Int)(v:OB),ρ=[some (.int c,false),some (.int k,false),some (.int n,false),some (.lst (xs.map .int),true),some (.int m,false),v]/\xs.length=i/\(0<=m/\m<2147483647)/\∀x∈xs,0<=x/\x<2147483647)
   [some (.int c,false),some (.int k,false),some (.int n,false),some (.lst [],true),some (.int G,false),none] ⟨[],G,none,rfl,rfl,⟨h0,h1⟩,by simp⟩ (by
    rintro i ρ hi ⟨xs,m,v,rfl,hl,⟨T,m1⟩,hx⟩;have m2 : -18446744073709551616<m:=by omega
    have O:m<18446744073709551616:=by omega
    have e:(m*m+48271*m+i+k) % 2147483647 ≥ 0/\(m*m+48271*m+i+k) % 2147483647<2147483647:=⟨Int.emod_nonneg _ (by decide),Int.emod_lt_of_pos _ (by decide)⟩;refine⟨_,_,rfl,.inl (bt (d:=.int ((m*m+48271*m+i+k) % 2147483647)) (b:=false) (by simp[m2,O]) (by simp) (lC (ds:=xs.map .int) (d:=.int ((m*m+48271*m+i+k) % 2147483647)) (b:=false) (by simp) (by simp) (by simp) (bP (by simp;omega)))),xs++[(m*m+48271*m+i+k) % 2147483647],(m*m+48271*m+i+k) % 2147483647,some (.int i,false),by simp,by simp[hl],e,?_⟩;intro x M;rcases mem_append.mp M with h|h
    ·exact hx x h
    ·simp at h;subst h;exact e)
  exact⟨ρ',e,xs,m,v,h.1,h.2.1,h.2.2.2⟩
 obtain⟨ρ',e,xs,m,v,rfl,hl,hx⟩:=run ((c % 2147483647*48271+k*k*69621+11) % 2147483647) (Int.emod_nonneg _ (by decide)) (Int.emod_lt_of_pos _ (by decide));refine⟨xs,av rfl (cP (ds:=[]) (by simp[sizeLine]) (by simp) (bt (d:=.int ((c % 2147483647*48271+k*k*69621+11) % 2147483647)) (b:=false) (by simp[k1,k2]) (by simp) (e8 (gP (eK (j:=n) (b:=false) (by simp) hn) e) (kH (by simp))))),hl,hx⟩
def xP {α:Type}(l:List α)(g:α->D)(p:α->Bool)(h:α->D)(e:fi ρ=some (l.map g))(hl:l.length<=100000)
  (k:∀x∈l,∃G,tg (g x) (gL nT cap ρ)=some G/\c G=some (p x)/\(p x=true->∃b,fe G=some (h x,b))):cD fi nT cap tg c fe ρ=some (.lst ((l.filter p).map h),true):=by
 have T:∀M:List α,(∀x∈M,x∈l)->e5 tg c fe (gL nT cap ρ) (M.map g)=some ((M.filter p).map h):=by
  intro M;induction M with
  |nil=>intro _;simp
  |cons x M O=>
   intro hm;obtain⟨G,h1,h2,h3⟩:=k x (hm x mX);have O:=O λy hy=>hm y (mZ _ hy);rw[uZ,ri,h1,vJ,h2,vJ];cases U:p x with
   |false=>simp[U,O]
   |true=>
    obtain⟨b,h4⟩:=h3 U;simp[U,O,h4]
 unfold cD;rw[e,vJ,if_pos (db (by simpa using hl)),T l λ_ h=>h,map_some]
def jl {α:Type}(l:List α)(g:α->D)(h:α->D)(e:fi ρ=some (l.map g))(hl:l.length<=100000)
  (k:∀x∈l,∃G,tg (g x) (gL nT cap ρ)=some G/\∃b,fe G=some (h x,b)):cD fi nT cap tg fT fe ρ=some (.lst (l.map h),true):=by
 have:=xP (c:=fT) (fe:=fe) l g (λ_=>true) h e hl λx hx=>by
  obtain⟨G,h1,h2⟩:=k x hx;exact⟨G,h1,rfl,λ_=>h2⟩
 rw[List.filter_eq_self.mpr λ_ _=>rfl]at this;exact this
@[simp] def qo {α:Type}(f:α->Bool)(l:List α):rm (l.map λx=>.bl (f x))=some (l.map f):=by
 induction l with
 |nil=>rfl
 |cons x l G=>simp[G]
def nL (h0:0<=i)(h:i.toNat<z.cps.size)(hz:z.length<=100000):bB (.str z) (.int i)=some (.str ⟨#[z.cps.toList.getD i.toNat 0]⟩,false):=by
 have hh:i.toNat<z.cps.toList.length:=by simpa using h
 simp only[bB];rw[if_pos (db hz),oF h0 hh];simp[List.getD,h]
def xQ (h0:0<=i)(h:i.toNat<ds.length):bB (.lst ds) (.int i)=some (ds.getD i.toNat .non,false):=by
 simp only[bB];rw[oF h0 h];simp[List.getD,h]
def rd (h0:0<=i)(h:i.toNat<ds.length):bB (.tup ds) (.int i)=some (ds.getD i.toNat .non,false):=by
 simp only[bB];rw[oF h0 h];simp[List.getD,h]
def tK {xs:LI}{i:Int}(h0:0<=i)(h:i.toNat<xs.length):bB (.lst (xs.map .int)) (.int i)=some (.int (xs.getD i.toNat 0),false):=by
 rw[xQ h0 (by simpa using h)];simp[List.getD,h]
def xR (c:Nat):(⟨#[c]⟩:Str).length=1:=rfl
def vg (z:Str):pI z=z.cps.toList.map λc=>.str ⟨#[c]⟩:=rfl
def mod_lt {x m:Int}(hm:0<m):0<=x % m/\x % m<m:=⟨Int.emod_nonneg _ (by omega),Int.emod_lt_of_pos _ hm⟩
def xS {α:Type}(l:List α)(f:α->Str)(h:∀x∈l,(f x).length=1):((l.map f).map (·.length)).sum=l.length:=by
 induction l with
 |nil=>rfl
 |cons x l G=>
  have h1:=h x mX;have h2:=G λy hy=>h y (mZ _ hy);simp only[uZ,List.sum_cons,vE,h1,h2];omega
def eV (h:0<=v):HT.cc n d (some v)=min v.toNat n:=by
 show(if v<0 then (v+(n:Int)).toNat else min v.toNat n)=_;rw[if_neg (by omega)]
def xT {α:Type}(xs:List α)(lo hi:OI):List α:=(xs.drop (HT.cc xs.length 0 lo)).take (HT.cc xs.length xs.length hi - HT.cc xs.length 0 lo)
def xU {α:Type}(f:α->D)(xs:List α)(lo hi:OI):dI (xs.map f) lo hi=(xT xs lo hi).map f:=by
 unfold dI xT;rw[vI,map_take,map_drop]
@[simp] noncomputable abbrev KW (ai:LD)(G:Int)(t:Env):Env:=some (.tup ai,false)::some (.int G,false)::t
@[simp] noncomputable abbrev eR (ns:LI)(M:LS)(O:Int)(G:LS)(R:LD)(a b:OB)(t:Env):Env:=some (.lst (ns.map .int),false)::some (.lst (M.map .str),false)::some (.int O,false)::a::some (.lst (G.map .str),true)::some (.lst R,true)::b::t
end DL
namespace Lw
open PySem DL
def ik:D:=(.int 255)
def lD:D:=(.int 9999)
def gQ:D:=(.int 9)
def gR:D:=(.int 8)
def im:D:=(.int 20)
def dE:D:=(.int 8)
def dM:D:=(.int 60)
noncomputable def qp:D:=(.tup [(.str "paper"),(.str "like"),(.str "copy")])
noncomputable def bv:List (PySem.Str×D):=[(("root" : Str),(.tup [(.str "office"),(.str "matters"),(.str "further"),(.str "rule")])),(("named" : Str),(.tup [(.str "day"),(.str "office"),(.str "person")])),(("chosen" : Str),(.tup [(.str "day"),(.str "by"),(.str "office"),(.str "person"),(.str "since")])),(("heir" : Str),(.tup [(.str "day"),(.str "by"),(.str "office"),(.str "person")])),(("death" : Str),(.tup [(.str "day"),(.str "person")])),(("lost" : Str),(.tup [(.str "day"),(.str "person")])),(("found" : Str),(.tup [(.str "day"),(.str "person")])),(("leave" : Str),(.tup [(.str "day"),(.str "by"),(.str "person"),(.str "matters"),(.str "stretch"),(.str "further")])),(("paper" : Str),(.tup [(.str "day"),(.str "by"),(.str "matters"),(.str "stretch"),(.str "whom"),(.str "pieces")])),(("like" : Str),(.tup [(.str "day"),(.str "by"),(.str "matters"),(.str "stretch"),(.str "whom"),(.str "of"),(.str "changes")])),(("copy" : Str),(.tup [(.str "day"),(.str "by"),(.str "of")])),(("call" : Str),(.tup [(.str "day"),(.str "by"),(.str "of")]))]
noncomputable def cu:D:=(.tup [(.str "by"),(.str "person"),(.str "whom")])
noncomputable def tL:D:=(.tup [(.str "open"),(.str "first"),(.str "last")])
def lE:FS :=
  (aM (gG (fA aG (fV 0 (ae (fC (.ty "int")) ak))) (gG (u4 (fA aG (fV 0 (ae (fC (.ty "bool")) ak)))) (dR og og (ag 1) (ag 0) (ag 2)))))
def cJ:=aN lE 3 0
def qq:FS :=
  (aM (fA cJ (fV 0 (ae (fI 0) (ae (fC lD) ak)))))
def eX:=aN qq 1 0
def jm:FS :=
  (aC (dh (cj (bV (br (fA aG (fV 0 (ae (fC (.ty "tuple")) ak))))) (cj (br (f2 vL (fA bU (fV 0 ak)) (fI 2))) (bV (br (fA eX (ae (ca 0 0) ak)))))) (aM (fC (.bl false))) aV)
  (aM (BN (f2 DX (ca 0 1) (fC .non)) (gG (fA eX (ae (ca 0 1) ak)) (f2 sP (ca 0 0) (ca 0 1))))))
def dc:=aN jm 1 0
def jn:FS :=
  (aM (fA cJ (fV 0 (ae (fI 1) (ae (fC ik) ak)))))
def eC:=aN jn 1 0
def np:FS :=
  (aC (dh (cj (bV (br (fA aG (fV 0 (ae (fC (.ty "str")) ak))))) (bV (br (dR og og (fI 1) (fA bU (fV 0 ak)) (fC gR))))) (aM (fC (.bl false))) aV)
  (aM (fA om (ae (cD (ft (ag 0)) 1 [] (eI 0) fT (dR og og (fS "a") (ag 0) (fS "z"))) ak))))
def dn:=aN np 1 0
def nq:FS :=
  (aM (gG (fA aG (fV 0 (ae (fC (.ty "str")) ak))) (f2 z4 (ag 0) (fC tL))))
def nr:=aN nq 1 0
def lF:FS :=
  (aM (fA dn (fV 0 ak)))
def eY:=aN lF 1 0
def ke:FS :=
  (aC (dh (cj (bV (br (fA aG (fV 0 (ae (fC (.ty "tuple")) ak))))) (bV (br (dR og og (fI 1) (fA bU (fV 0 ak)) (fC dE))))) (aM (fC (.bl false))) aV)
  (aM (fA om (ae (cD (ft (ag 0)) 1 [] (eI 0) fT (fA eY (fV 0 ak))) ak))))
def fE:=aN ke 1 0
def kf:FS :=
  (aC (dh (cj (bV (br (fA aG (fV 0 (ae (fC (.ty "tuple")) ak))))) (br (f2 vL (fA bU (fV 0 ak)) (fI 2)))) (aM (fC (.bl false))) aV)
  (aM (gG (fA cJ (ae (ca 0 0) (ae (fI 0) (ae (f2 kr (fC dE) (fI 1)) ak)))) (fA eY (ae (ca 0 1) ak)))))
def fF:=aN kf 1 0
def jo:FS :=
  (aC (dh (cj (bV (br (fA aG (fV 0 (ae (fC (.ty "tuple")) ak))))) (bV (br (fA om (ae (cD (ft (ag 0)) 1 [] (eI 0) fT (fA fF (fV 0 ak))) ak))))) (aM (fC (.bl false))) aV)
  (aC (bf 1 (cD (ft (ag 0)) 1 [] (eI 0) fT (ca 0 0)))
  (aM (fA om (ae (cD (uB (ag 1) (jz (ag 1) (bo (fI 1)) dg)) 2 [] (mG [0,1]) fT (f2 sP (ag 0) (ag 1))) ak)))))
def eD:=aN jo 1 1
def nu:FS :=
  (aC (dh (cj (br (f2 cL (ag 0) (fS "day"))) (br (f2 cL (ag 0) (fS "since")))) (aM (fA eX (fV 1 ak))) aV)
  (aC (dh (cj (br (f2 cL (ag 0) (fS "office"))) (cj (br (f2 cL (ag 0) (fS "by"))) (br (f2 cL (ag 0) (fS "person"))))) (aM (fA dn (fV 1 ak))) aV)
  (aC (dh (br (f2 cL (ag 0) (fS "whom"))) (aM (BN (f2 DX (ag 1) (fC .non)) (fA dn (fV 1 ak)))) aV)
  (aC (dh (br (f2 cL (ag 0) (fS "matters"))) (aM (fA eC (fV 1 ak))) aV)
  (aC (dh (br (f2 cL (ag 0) (fS "stretch"))) (aM (fA dc (fV 1 ak))) aV)
  (aC (dh (br (f2 cL (ag 0) (fS "further"))) (aM (fA cJ (fV 1 (ae (fI 0) (ae (fC gQ) ak))))) aV)
  (aC (dh (br (f2 cL (ag 0) (fS "rule"))) (aM (fA nr (fV 1 ak))) aV)
  (aC (dh (br (f2 cL (ag 0) (fS "of"))) (aM (fA cJ (fV 1 (ae (fI 0) (ae (f2 kr (fC dM) (fI 1)) ak))))) aV)
  (aC (dh (br (f2 cL (ag 0) (fS "pieces"))) (aM (fA fE (fV 1 ak))) aV)
  (aM (fA eD (fV 1 ak))))))))))))
def aR:=aN nu 2 0
def nv:FS :=
  (aC (dh (cj (bV (br (fA aG (fV 0 (ae (fC (.ty "tuple")) ak))))) (cj (br (f2 cL (fA bU (fV 0 ak)) (fI 0))) (bV (br (fA aG (ae (ca 0 0) (ae (fC (.ty "str")) ak))))))) (aM (fC (.bl false))) aV)
  (aC (dh (cj (br (f1 (ll bv) (ca 0 0))) (br (f2 vL (fA bU (fV 0 ak)) (f2 bC (fI 1) (fA bU (ae (f1 (iV bv) (ca 0 0)) ak)))))) (aM (fC (.bl false))) aV)
  (aM (fA om (ae (cD (uB (f1 (iV bv) (ca 0 0)) (jz (ag 0) (bo (fI 1)) dg)) 2 [] (mG [0,1]) fT (fA aR (fV 0 (fV 1 ak)))) ak)))))
def jL:=aN nv 1 0
def nw:FS :=
  (aM (f2 bB (ca 0 1) (fI 0)))
def be:=aN nw 1 0
def ny:FS :=
  (aM (f2 bB (ca 0 1) (f2 bC (fI 1) (f2 (jH bv) (fA be (fV 0 ak)) (ag 1)))))
def b9:=aN ny 2 0
def qr:FS :=
  (aC (dh (br (f2 cL (fA be (fV 0 ak)) (fS "root"))) (aM (fC .non)) aV)
  (aM (fA b9 (fV 0 (ae (fS "day") ak)))))
def jp:=aN qr 1 0
def kg:FS :=
  (aC (bf 1 (fA jp (fV 0 ak)))
  (aC (dh (br (f2 DX (ag 1) (fC .non))) (aM (fC (.bl true))) aV)
  (aC (dh (jV (br (f2 cL (fA be (fV 0 ak)) (fS "chosen"))) (br (f2 sP (fA b9 (fV 0 (ae (fS "since") ak))) (ag 1)))) (aM (fC (.bl false))) aV)
  (aM (f2 og (ag 1) (ca 0 0))))))
def gS:=aN kg 1 1
def qt:FS :=
  (aC (dh (cj (bV (br (fA aG (fV 0 (ae (fC (.ty "tuple")) ak))))) (br (f2 vL (fA bU (fV 0 ak)) (fI 2)))) (aM (fC (.bl false))) aV)
  (aM (gG (fA eX (ae (ca 0 0) ak)) (gG (fA jL (ae (ca 0 1) ak)) (fA gS (fV 0 ak))))))
def lG:=aN qt 1 0
def gT:FS :=
  (aM (cD (ft (ag 0)) 1 [] (eI 0) (br (f2 cL (fA be (fV 0 ak)) (fS "root"))) (fA b9 (fV 0 (ae (fS "office") ak)))))
def eZ:=aN gT 1 0
def ga:FS :=
  (aM (gG (f2 cL (fA be (fV 1 ak)) (fS "root")) (f2 z4 (fA b9 (fV 1 (ae (fS "office") ak))) (fA eZ (fV 0 ak)))))
def dq:=aN ga 2 0
def lH:FS :=
  (aM (HC (f1 (iV bv) (fA be (fV 0 ak))) (jz (ca 0 1) (bo (fI 1)) dg)))
def dr:=aN lH 1 0
def kh:FS :=
  (aC (bf 1 (cD (ft (fA dr (fV 0 ak))) 2 [] (mG [0,1]) (jV (br (f2 z4 (ag 0) (fC cu))) (br (f2 oi (ag 1) (fC .non)))) (ag 1)))
  (aM (f1 iY (ag 1))))
def dN:=aN kh 1 1
def gE:FS :=
  (xi 1 (fA dN (fV 2 ak)))
def gU:FS :=
  (aC (bf 1 (fA c8 ak))
  (aC (gk (ft (ag 0)) (eI 2) gE)
  (aM (f1 iZ (ag 1)))))
def fg:=aN gU 1 2
def jq:FS :=
  (aC (dh (cj (br (f2 Fh (ag 1) (fC dM))) (bV (br (fA lG (ae (f2 bB (ag 0) (ag 1)) ak))))) (aM (fC (.bl true))) aV)
  (aM (BN (fA dq (ae (jz (ag 0) dg (bo (ag 1))) (ae (f2 bB (ag 0) (ag 1)) ak))) (f2 Db (fA fg (ae (jz (ag 0) dg (bo (f2 bC (ag 1) (fI 1)))) ak)) (fC im)))))
def gv:=aN jq 2 0
def gV:FS :=
  (dh (br (fA gv (fV 1 (fV 2 ak)))) r6 aV)
def io:FS :=
  (aC (dh (bV (br (fA oE (fV 0 (ae (fA bw (ae (fC (.ty "list")) (ae (fC (.ty "tuple")) ak))) ak))))) r6 aV)
  (aC (bf 1 (fA cn (fV 0 ak)))
  (aC (fR (dj (fA bU (fV 1 ak))) (eI 2) gV)
  (iO 1))))
def fM:=aN io 1 2
def lI:FS :=
  (aM (gG (dR og sP (fI 0) (ag 2) (fA bU (fV 0 ak))) (f2 og (f2 bB (f2 bB (ag 0) (ag 2)) (fI 0)) (ag 1))))
def lJ:=aN lI 3 0
def lK:FS :=
  (aM (gG (fA lJ (fV 0 (fV 1 (fV 2 ak)))) (f2 z4 (fA be (ae (f2 bB (ag 0) (ag 2)) ak)) (fC qp))))
def gw:=aN lK 3 0
def nA:FS :=
  (aM (f2 t9 (f2 t9 (jz (ag 0) dg (bo (ag 1))) (fA bw (fV 2 ak))) (jz (ag 0) (bo (f2 bC (ag 1) (fI 1))) dg)))
def jM:=aN nA 3 0
def aY:FS :=
  (aC (dh (br (f2 Db (ag 4) (fA bU (fV 2 ak)))) (aM (fA bw (ae (fS "beyond") (fV 3 ak)))) aV)
  (bf 2 (fA jM (fV 2 (fV 4 (fV 5 ak))))))
def aQ:FS :=
  (aC (dh (br (f2 vL (fA be (ae (f2 bB (ag 0) (ag 3)) ak)) (fS "like"))) AI aV)
  (Eh [3] (gk (ft (fA b9 (ae (f2 bB (ag 0) (ag 3)) (ae (fS "changes") ak)))) (mG [4,5]) aY)))
def gW:FS :=
  (aC (bf 2 (fA b9 (ae (f2 bB (ag 0) (f2 bB (ag 1) (f1 la (fI 1)))) (ae (fS "pieces") ak))))
  (aC (gk (zR (ag 1)) (eI 3) aQ)
  (aM (fA bw (ae (fS "words") (fV 2 ak))))))
def bT:=aN gW 2 4
def fj:FS :=
  (aC (dh (bV (br (fA gw (fV 0 (fV 1 (fV 4 ak)))))) (aM (fA bw (ae (fS "lacks") (fV 4 ak)))) aV)
  (aC (j8 3 (ag 4))
  (aC (dh (br (f2 cL (fA be (ae (f2 bB (ag 0) (ag 4)) ak)) (fS "paper"))) (aM (fA bT (fV 0 (fV 3 ak)))) aV)
  (bf 4 (fA b9 (ae (f2 bB (ag 0) (ag 4)) (ae (fS "of") ak)))))))
def tM:FS :=
  (aC (bf 3 (fA c8 ak))
  (aC (bf 4 (ag 2))
  (aC (bR (br (f2 gm (ag 4) (ag 3))) fj 1000)
  (aM (xM (fS "ring") (fA dD (ae (jz (ag 3) (bo (f2 gu (ag 3) (ag 4))) dg) ak)))))))
def jr:=aN tM 3 2
def ki:FS :=
  (aC (dh (br (f2 sP (ag 1) (fA bU (fV 0 ak)))) (aM (f2 bB (ag 0) (ag 1))) aV)
  (aM (fI 0)))
def gX:=aN ki 2 0
def kj:FS :=
  (aC (bf 4 (f2 bF (f2 bC (f2 bC (f2 bC (f2 gI (ag 4) (ag 4)) (f2 gI (fI 48271) (ag 4))) (ag 5)) (ag 1)) (fI 2147483647)))
  (j8 3 (ag 4)))
def lL:FS :=
  (aC (bf 3 (fA c8 ak))
  (aC (bf 4 (f2 bF (f2 bC (f2 bC (f2 gI (f2 bF (ag 0) (fI 2147483647)) (fI 48271)) (f2 gI (f2 gI (ag 1) (ag 1)) (fI 69621))) (fI 11)) (fI 2147483647)))
  (aC (fR (dj (ag 2)) (eI 5) kj)
  (iO 3))))
def cK:=aN lL 3 3
def nB:FS :=
  (aC (bf 1 (fS "abcdefghijklmnopqrstuvwxyz"))
  (aM (f2 iS (fS "") (cD (dj (f2 bC (fI 1) (f2 bF (ag 0) (fI 8)))) 1 [1,0] (eI 0) fT (f2 bB (ag 1) (f2 bF (f2 bC (f2 iP (ag 2) (fI 8)) (f2 gI (ag 0) (f2 iP (ag 2) (fI 211)))) (fI 26)))))))
def gb:=aN nB 1 1
def js:FS :=
  (aC (bf 2 (f2 bC (ag 2) (f2 bB (fA c8 (ae (fI 0) (ae (fI 0) (ae (fI 0) (ae (fI 1) (ae (fI 2) ak)))))) (f2 bF (ag 3) (fI 5)))))
  (aC (dh (br (f2 sP (ag 2) (fI 8))) (j8 1 (fA bw (fV 2 (ae (fA gb (ae (f2 iP (ag 3) (fI 5)) ak)) ak)))) aV)
  (bf 2 (f2 bC (ag 2) (fI 1)))))
def kl:FS :=
  (aC (bf 1 (fA c8 ak))
  (aC (bf 2 (fI 0))
  (aC (gk (ft (ag 0)) (eI 3) js)
  (aM (fA cn (fV 1 ak))))))
def gY:=aN kl 1 3
def xV:FS :=
  (aC (dh (br (f2 cL (f2 bF (ca 0 2) (fI 4)) (fI 0))) (aM (f2 bF (ca 0 3) (fI 60))) aV)
  (aM (fA z5 (ae (fI 0) (ae (fA z6 (ae (fI 59) (ae (f2 bC (f2 kr (f2 bC (ag 1) (f2 bF (ca 0 3) (fI 7))) (fI 5)) (fA mn (ae (f2 cL (f2 bF (ca 0 2) (fI 8)) (fI 1)) ak))) ak))) ak)))))
def lM:=aN xV 2 0
def jt:FS :=
  (aC (bf 3 (fA lM (fV 0 (fV 1 ak))))
  (aC (bf 4 (fA c8 (ae (fA bw (ae (fS "call") (fV 2 (ae (fS "a") (fV 3 ak))))) (ae (fA bw (ae (fS "leave") (fV 2 (ae (fS "a") (ae (fS "b") (ae (fI 1) (ae (fA bw (ae (fI 0) (ae (fC .non) ak))) (ae (fI 2) ak)))))))) (ae (fA bw (ae (fS "named") (fV 2 (ae (fS "king") (ae (fS "a") ak))))) ak)))))
  (aC (bf 4 (f2 bC (ag 4) (fA c8 (ae (fA bw (ae (fS "death") (fV 2 (ae (fS "a") ak)))) (ae (fA bw (ae (fS "lost") (fV 2 (ae (fS "a") ak)))) (ae (fA bw (ae (fS "found") (fV 2 (ae (fS "a") ak)))) (ae (fA bw (ae (fS "heir") (fV 2 (ae (fS "a") (ae (fS "king") (ae (fS "b") ak)))))) ak)))))))
  (aC (bf 5 (f2 bC (fS "k") (f2 bB (fS "abcdefghijklmnopqrstuvwxyz") (f2 bF (ag 1) (fI 26)))))
  (aC (bf 4 (f2 bC (ag 4) (fA c8 (ae (fA bw (ae (fS "chosen") (fV 2 (ae (fS "a") (ae (fS "king") (ae (fS "b") (fV 2 ak))))))) (ae (fA bw (ae (fS "root") (fV 5 (ae (fI 1) (ae (fI 0) (ae (fS "open") ak)))))) ak)))))
  (aM (f2 bB (ag 4) (f2 bF (f2 bF (ca 0 4) (fI 10)) (fI 9)))))))))
def eE:=aN jt 3 3
def tN:FS :=
  (aC (bf 2 (f2 bF (ca 0 0) (fI 10)))
  (aC (bf 3 (f2 bF (ca 0 1) (fI 8)))
  (aC (bf 4 (f2 bC (ag 2) (f2 bB (fA c8 (ae (fI 0) (ae (f2 bF (f2 iP (ca 0 0) (fI 10)) (fI 4)) ak))) (f2 bF (f2 iP (ca 0 0) (fI 40)) (fI 2)))))
  (aC (dh (br (f2 cL (ag 3) (fI 0))) (aM (fA bw (fV 4 (ae (fA eE (fV 0 (fV 1 (fV 2 ak)))) ak)))) aV)
  (aC (dh (br (f2 sP (ag 3) (fI 4))) (aC (bf 5 (fA cn (ae (cD (ft (jz (ag 0) (bo (fI 6)) (bo (f2 bC (fI 7) (f2 bF (ca 0 4) (fI 8)))))) 1 [] (eI 0) fT (fA gb (fV 0 ak))) ak)))
  (aM (fA bw (fV 4 (ae (fA bw (ae (fS "paper") (fV 2 (ae (fS "a") (ae (fI 1) (ae (fA bw (ae (fI 0) (ae (fC .non) ak))) (ae (fC .non) (fV 5 ak)))))))) ak))))) aV)
  (aC (dh (br (f2 sP (ag 3) (fI 7))) (aC (bf 6 (fA gY (ae (jz (ag 0) (bo (fI 6)) (bo (f2 bC (fI 6) (f2 bF (ca 0 4) (fI 5))))) ak)))
  (aM (fA bw (fV 4 (ae (fA bw (ae (fS "like") (fV 2 (ae (fS "a") (ae (fI 1) (ae (fA bw (ae (fI 0) (ae (fC .non) ak))) (ae (fC .non) (ae (fA lM (fV 0 (fV 1 ak))) (fV 6 ak))))))))) ak))))) aV)
  (aM (fA bw (fV 4 (ae (fA bw (ae (fS "copy") (fV 2 (ae (fS "a") (ae (fA lM (fV 0 (fV 1 ak))) ak))))) ak))))))))))
def ju:=aN tN 2 5
def bM:FS :=
  (dh (br (f2 cL (ag 3) (fA bU (fV 2 ak)))) (j8 2 (ag 4)) (dh (br (f2 sP (ag 3) (fA bU (fV 2 ak)))) (xh 2 (ag 3) (ag 4)) (aM (fC .non))))
def lN:FS :=
  (aC (bf 2 (fA cX (fV 0 ak)))
  (aC (gk (ft (ag 1)) (mG [3,4]) bM)
  (iO 2)))
def gx:=aN lN 2 3
def cw:FS :=
  (dh (br (f2 cL (f2 bB (f2 bB (f2 bB (ag 0) (f2 bB (ag 3) (ag 7))) (fI 1)) (fI 0)) (fS "like"))) (aC (bf 6 (fA gx (fV 6 (ae (f2 bB (f2 bB (f2 bB (ag 0) (f2 bB (ag 3) (ag 7))) (fI 1)) (fI 7)) ak))))
  (dh (br (f2 DX (ag 6) (fC .non))) (aM (fA bw (ae (fS "beyond") (ae (f2 bB (ag 3) (ag 7)) ak)))) aV)) aV)
def gc:FS :=
  (aC (dh (cj (br (f2 Fh (ag 4) (fA bU (fV 0 ak)))) (cj (br (f2 Db (f2 bB (f2 bB (ag 0) (ag 4)) (fI 0)) (ag 1))) (br (f2 gm (f2 bB (f2 bB (f2 bB (ag 0) (ag 4)) (fI 1)) (fI 0)) (fA bw (ae (fS "paper") (ae (fS "like") (ae (fS "copy") ak)))))))) (aM (fA bw (ae (fS "lacks") (fV 4 ak)))) aV)
  (aC (j8 3 (ag 4))
  (aC (bf 5 (f2 bB (f2 bB (ag 0) (ag 4)) (fI 1)))
  (aC (dh (br (f2 cL (ca 5 0) (fS "paper"))) (aC (bf 6 (fA cX (ae (ca 5 6) ak)))
  (aC (fR (jg (f2 kr (fA bU (fV 3 ak)) (fI 1)) (f1 la (fI 1)) (f1 la (fI 1))) (eI 7) cw)
  (aM (fA bw (ae (fS "words") (ae (fA cn (fV 6 ak)) ak)))))) aV)
  (bf 4 (f2 bB (ag 5) (f2 bB (fA c8 (ae (fI 3) (ae (fI 6) ak))) (fA mn (ae (f2 cL (ca 5 0) (fS "like")) ak)))))))))
def tO:FS :=
  (aC (bf 3 (fA c8 ak))
  (aC (bf 4 (ag 2))
  (aC (bR (br (f2 gm (ag 4) (ag 3))) gc 1000)
  (aM (fA bw (ae (fS "ring") (ae (fA dD (ae (jz (ag 3) (bo (f2 gu (ag 3) (ag 4))) dg) ak)) ak)))))))
def kI:=aN tO 3 5
def nD:FS :=
  (aC (dh (cj (bV (br (fA aG (fV 0 (ae (fC (.ty "tuple")) ak))))) (cj (br (f2 vL (fA bU (fV 0 ak)) (fI 2))) (cj (bV (br (fA aG (ae (ca 0 0) (ae (fC (.ty "str")) ak))))) (br (f2 vL (ca 0 0) (ca 1 0)))))) (aM (fC (.bl false))) aV)
  (aC (dh (br (f2 cL (ca 1 0) (fS "words"))) (aM (gG (fA aG (ae (ca 0 1) (ae (fC (.ty "tuple")) ak))) (f2 cL (ca 0 1) (ca 1 1)))) aV)
  (aC (dh (br (f2 cL (ca 1 0) (fS "ring"))) (aM (gG (fA aG (ae (ca 0 1) (ae (fC (.ty "list")) ak))) (f2 cL (ca 0 1) (ca 1 1)))) aV)
  (aM (gG (fA aG (ae (ca 0 1) (ae (fC (.ty "int")) ak))) (gG (u4 (fA aG (ae (ca 0 1) (ae (fC (.ty "bool")) ak)))) (f2 cL (ca 0 1) (ca 1 1))))))))
def du:=aN nD 2 0
def rQ:FS :=
  (Ck 7 (fA jr (fV 4 (fV 5 (fV 6 ak)))) 8 (fA kI (fV 3 (fV 5 (fV 6 ak)))) (bV (br (fA du (fV 7 (fV 8 ak))))) (aM (fC (.bl false))) (br (f2 cL (ca 8 0) (fS "ring"))) 1 (fI 0) (dh (bV (br (fA du (ae (fA jr (fV 4 (fV 5 (fV 6 ak)))) (fV 8 ak))))) (aM (fC (.bl false))) aV))
def oH:FS :=
  (Eh [3] (fR (dj (fA bU (fV 3 ak))) (eI 6) rQ))
def AT:FS :=
  (aC (bf 1 (fA gX (fV 0 (ae (fI 0) ak))))
  (aC (bf 2 (jz (ag 0) (bo (fI 1)) (bo (fI 25))))
  (aC (dh (br (f2 cL (f2 bF (ag 1) (fI 4)) (fI 1))) (bf 2 (f2 bC (ag 2) (fA cK (fV 1 (ae (fI 91) (ae (f2 kr (fI 24) (fA bU (fV 2 ak))) ak)))))) aV)
  (aC (bf 3 (cD (dj (fA bU (fV 2 ak))) 1 [2] (eI 0) fT (fA ju (ae (fA cK (ae (f2 bB (ag 1) (ag 0)) (fV 0 (ae (fI 15) ak)))) (fV 0 ak)))))
  (aC (bf 4 (fA fM (fV 3 ak)))
  (aC (Eh [1,3] (gk (ft (fA c8 (ae (fI 9999) (ae (f2 bF (f2 iP (ag 1) (fI 4)) (fI 14)) ak)))) (eI 5) oH))
  (aM (fC (.bl true)))))))))
def F_law:=aN AT 1 8
end Lw
namespace DL
open PySem L2
theorem jN:∀(ds:LD),(∀d∈ds,cx d d=true)->gH ds ds=true
 |[],_=>by simp only[gH]
 |d::ds,h=>by
  simp only[gH,h d mX,Bool.true_and];exact jN ds λe he=>h e (mZ _ he)
theorem lP:∀(n:Nat)(d:D),aA n d=true->cx d d=true
 |n,.non,_=>by simp
 |n,.bl _,_=>by simp
 |n,.int _,_=>by simp
 |n,.str _,_=>by simp
 |n,.ty _,h=>by cases n<;>simp[aA]at h
 |n,.dk _ _,h=>by simp at h
 |n,.dt _ _,h=>by simp at h
 |0,.tup _,h=>by simp[aA]at h
 |0,.lst _,h=>by simp[aA]at h
 |n+1,.tup ds,h=>by
  simp only[aA,all_eq_true]at h;simp only[cx];exact jN ds λd hd=>lP n d (h d hd)
 |n+1,.lst ds,h=>by
  simp only[aA,all_eq_true]at h;simp only[cx];exact jN ds λd hd=>lP n d (h d hd)
def qu (h:aA 40 d=true):cL d d=some (.bl true,false):=by unfold cL;rw[if_pos ⟨h,h⟩,lP 40 d h]
end DL
namespace Lw
open PySem DL L2
def AU (d:D)(r:LD):kT (d::r) 0=some d:=by have:=l8 (xs:=d::r) (j:=0) (by simp);simpa using this
def Dg (d e:D)(r:LD):kT (d::e::r) 1=some e:=by have:=l8 (xs:=d::e::r) (j:=1) (by simp);simpa using this
def Cq (d:D)(r:LD):dI (d::r) (some 1) none=r:=by
 unfold dI;rw[eV (v:=1) (by decide)];have:HT.cc (d::r).length (d::r).length none=(d::r).length:=rfl;rw[this];have:min (1:Int).toNat (d::r).length=1:=by simp
 rw[this];simp
def qv (ai:LD)(n:Nat):dI ai none (some (n:Int))=ai.take n:=by
 unfold dI;rw[HT.wu,HT.yT];simp
def tP {G:D->OB}{M:FE}{ρ:DL.Env}{x:D}{b:Bool}{z:OB}(O:M ρ=some (x,b))(T:G x=z):f1 G M ρ=z:=by unfold f1;rw[O];exact T
def bq (G:LS):bA (G.map D.str)=true:=by
 induction G with
 |nil=>rfl
 |cons a l M=>simp[M]
def iE {ds:LD}(h:∀d∈ds,aZ d=true):bA ds=true:=by
 induction ds with
 |nil=>rfl
 |cons d r G=>simp[h d (by simp),G λe he=>h e (by simp[he])]
def qw (parts:LS)(ao:LD):dL (parts.map .str) ao=(parts.zip ao).map λx=>.tup [.str x.1,x.2]:=by
 induction parts generalizing ao with
 |nil=>rfl
 |cons a l G=>
  cases ao with
  |nil=>rfl
  |cons d r=>have:=G r;unfold dL at this ⊢;simp[this]
def jv {α:Type}(l:List α):om [.lst (l.map λ_=>.bl true)]=some (.bl true,false):=by
 have:=qo (λ_:α=>true) l;simp only[om,this,map_some];congr 2;simp
def qx (c:Nat):Bool:=decide (97<=c) && decide (c<=122)
def Cr:("a" : Str)=⟨#[97]⟩:=by decide +kernel
def Cs:("z" : Str)=⟨#[122]⟩:=by decide +kernel
def qy (c:Nat)(ρ:DL.Env)(h:ρ[0]? = some (some (.str ⟨#[c]⟩,false))):dR og og (fC (.str "a")) (ag 0) (fC (.str "z")) ρ=some (.bl (qx c),false):=by
 refine fZ (x:=.str ⟨#[97]⟩) (y:=.str ⟨#[c]⟩) (z:=.str ⟨#[122]⟩) (b1:=false) (b2:=false) (b3:=false) (b4:=false) ?_ ?_ ?_ (tJ _ _) λ_=>tJ _ _
 ·rw[Cr];rfl
 ·simp[h]
 ·rw[Cs];rfl
noncomputable def ib (z:Str):Bool:=(decide (1<=z.length) && decide (z.length<=8)) && z.cps.toList.all qx
def qz (z:Str):z.cps.toList.length=z.length:=by simp[Str.length]
def lQ {z:Str}(h:ib z=true):dn [.str z]=some (.bl true,false):=by
 unfold ib at h;rw[vD,vD]at h;obtain⟨⟨h1,G⟩,ha⟩:=h;have h1:=of_decide_eq_true h1;have G:=of_decide_eq_true G;have hl:z.length<=sizeLine:=db (by omega);refine av rfl (ax (bG (p:=false) (q:=false) (by simp) λ_=>c7 (p:=true) (aB (b:=false) ((fZ (x:=.int 1) (y:=.int z.length) (z:=.int 8) (b1:=false) (b2:=false) (b3:=false) (b4:=false) (p:=true) (q:=true) rfl (by simp[hl]) rfl (by simp;omega) λ_=>by simp;omega).trans rfl))) (a9 (af (ds:=[.lst (z.cps.toList.map λc=>.bl (qx c))]) ?_ ?_)))
 ·have:=jl (fi:=ft (ag 0)) (nT:=1) (cap:=[]) (tg:=eI 0) (fe:=dR og og (fC (.str "a")) (ag 0) (fC (.str "z"))) (ρ:=[some (.str z,false)]) z.cps.toList (λc=>.str ⟨#[c]⟩) (λc=>.bl (qx c)) (by simp[vg]) (by rw[qz];omega) λc _=>
   ⟨_,rfl,false,qy c _ (by simp[gL])⟩
  exact au (b:=true) this rfl
 ·simp only[om,qo,map_some,all_map];congr 2;exact congrArg D.bl ha
def gd {d lo hi:Int}(h1:lo<=d)(h2:d<=hi):cJ [.int d,.int lo,.int hi]=some (.bl true,false):=by
 refine av rfl (a9 ((da (p:=true) (q:=true) (b1:=false) (by simp) λ_=>(da (p:=true) (q:=true) (b1:=false) (tH (p:=false) (b1:=false) (by simp)) λ_=>(fZ (x:=.int lo) (y:=.int d) (z:=.int hi) (b1:=false) (b2:=false) (b3:=false) (b4:=false) (p:=true) (q:=true) rfl rfl rfl (by simp;omega) λ_=>by simp;omega).trans rfl).trans rfl).trans rfl))
def kJ {d:Int}(h1:0<=d)(h2:d<=9999):eX [.int d]=some (.bl true,false):=av rfl (a9 (af (ds:=[.int d,.int 0,.int 9999]) rfl (gd h1 h2)))
def fG {d:Int}(h1:1<=d)(h2:d<=255):eC [.int d]=some (.bl true,false):=av rfl (a9 (af (ds:=[.int d,.int 1,.int 255]) rfl (gd h1 h2)))
def q0 {d:Int}(h1:0<=d)(h2:d<=9999):dc [.tup [.int d,.non]]=some (.bl true,false):=by
 refine av rfl (ax (bG (p:=false) (q:=false) (by simp) λ_=>bG (p:=false) (q:=false) (by simp) λ_=>c7 (p:=true) (aB (b:=false) (af (ds:=[.int d]) (by simp[AU]) (kJ h1 h2)))) (a9 ((AS (p:=true) (q:=true) (b1:=false) (by simp[Dg,oh]) (by simp)).trans rfl)))
def nE {z:Str}(h:ib z=true):eY [.str z]=some (.bl true,false):=av rfl (a9 (af (ds:=[.str z]) rfl (lQ h)))
def rR {ps:LS}(h1:1<=ps.length)(M:ps.length<=8)(h:∀p∈ps,ib p=true):fE [.tup (ps.map .str)]=some (.bl true,false):=by
 refine av rfl (ax (bG (p:=false) (q:=false) (by simp) λ_=>c7 (p:=true) (aB (b:=false) ((fZ (x:=.int 1) (y:=.int ps.length) (z:=.int 8) (b1:=false) (b2:=false) (b3:=false) (b4:=false) (p:=true) (q:=true) rfl (by simp) rfl (by simp;omega) λ_=>by simp;omega).trans rfl))) (a9 (af (ds:=[.lst (ps.map λ_=>.bl true)]) ?_ (jv ps))));have:=jl (fi:=ft (ag 0)) (nT:=1) (cap:=[]) (tg:=eI 0) (fe:=fA eY (ae (ag 0) ak)) (ρ:=[some (.tup (ps.map .str),false)]) ps (λp=>.str p) (λ_=>.bl true) (by simp) (by omega) λp G=>
  ⟨_,rfl,false,af (ds:=[.str p]) (by simp[gL]) (nE (h p G))⟩
 exact au (b:=true) this rfl
def cq {p q:Str}{v:D}{b:Bool}(h:decide (p=q)=b):br (f2 cL (ag 0) (fC (.str q))) [some (.str p,false),some (v,false)]=some b:=aB (b:=false) (a7 (x:=.str p) (y:=.str q) (b1:=false) (b2:=false) rfl rfl (by simp[←h]))
def c2 {p q r:Str}{v:D}(h:(decide (p=q) || decide (p=r))=false):cj (br (f2 cL (ag 0) (fC (.str q)))) (br (f2 cL (ag 0) (fC (.str r)))) [some (.str p,false),some (v,false)]=some false:=(bG (cq rfl) λ_=>cq rfl).trans (by rw[h])
def c3 {p q r t:Str}{v:D}(h:(decide (p=q) || (decide (p=r) || decide (p=t)))=false):cj (br (f2 cL (ag 0) (fC (.str q)))) (cj (br (f2 cL (ag 0) (fC (.str r)))) (br (f2 cL (ag 0) (fC (.str t))))) [some (.str p,false),some (v,false)]=some false:=(bG (cq rfl) λ_=>bG (cq rfl) λ_=>cq rfl).trans (by rw[h])
def IV {p q r:Str}{v:D}(h:(decide (p=q) || decide (p=r))=true):cj (br (f2 cL (ag 0) (fC (.str q)))) (br (f2 cL (ag 0) (fC (.str r)))) [some (.str p,false),some (v,false)]=some true:=(bG (cq rfl) λ_=>cq rfl).trans (by rw[h])
def IW {p q r t:Str}{v:D}(h:(decide (p=q) || (decide (p=r) || decide (p=t)))=true):cj (br (f2 cL (ag 0) (fC (.str q)))) (cj (br (f2 cL (ag 0) (fC (.str r)))) (br (f2 cL (ag 0) (fC (.str t))))) [some (.str p,false),some (v,false)]=some true:=(bG (cq rfl) λ_=>bG (cq rfl) λ_=>cq rfl).trans (by rw[h])
def xW {p:Str}{v:D}(G:(decide (p=("day" : Str)) || decide (p=("since" : Str)))=true)(h:eX [v]=some (.bl true,false)):aR [.str p,v]=some (.bl true,false):=av rfl (cf (IV G) (a9 (af (ds:=[v]) rfl h)))
def oI {p:Str}{v:D}(h0:(decide (p=("day" : Str)) || decide (p=("since" : Str)))=false)(G:(decide (p=("office" : Str)) || (decide (p=("by" : Str)) || decide (p=("person" : Str))))=true)(h:dn [v]=some (.bl true,false)):aR [.str p,v]=some (.bl true,false):=av rfl (ax (c2 h0) (cf (IW G) (a9 (af (ds:=[v]) rfl h))))
def tQ:aR [.str "whom",.non]=some (.bl true,false):=aX (by decide +kernel)
def gy {v:D}(h:eC [v]=some (.bl true,false)):aR [.str "matters",v]=some (.bl true,false):=av rfl (ax (c2 (by decide +kernel)) (ax (c3 (by decide +kernel)) (ax (cq (by decide +kernel)) (cf (cq (by decide +kernel)) (a9 (af (ds:=[v]) rfl h))))))
def iF {v:D}(h:dc [v]=some (.bl true,false)):aR [.str "stretch",v]=some (.bl true,false):=av rfl (ax (c2 (by decide +kernel)) (ax (c3 (by decide +kernel)) (ax (cq (by decide +kernel)) (ax (cq (by decide +kernel)) (cf (cq (by decide +kernel)) (a9 (af (ds:=[v]) rfl h)))))))
def lR {d:Int}(h1:0<=d)(h2:d<=9):aR [.str "further",.int d]=some (.bl true,false):=av rfl (ax (c2 (by decide +kernel)) (ax (c3 (by decide +kernel)) (ax (cq (by decide +kernel)) (ax (cq (by decide +kernel)) (ax (cq (by decide +kernel)) (cf (cq (by decide +kernel)) (a9 (af (ds:=[.int d,.int 0,.int 9]) rfl (gd h1 h2)))))))))
def xX {d:Int}(h1:0<=d)(h2:d<=59):aR [.str "of",.int d]=some (.bl true,false):=av rfl (ax (c2 (by decide +kernel)) (ax (c3 (by decide +kernel)) (ax (cq (by decide +kernel)) (ax (cq (by decide +kernel)) (ax (cq (by decide +kernel)) (ax (cq (by decide +kernel)) (ax (cq (by decide +kernel)) (cf (cq (by decide +kernel)) (a9 (af (ds:=[.int d,.int 0,.int 59]) (by simp[dM]) (gd h1 h2)))))))))))
def vh {v:D}(h:fE [v]=some (.bl true,false)):aR [.str "pieces",v]=some (.bl true,false):=av rfl (ax (c2 (by decide +kernel)) (ax (c3 (by decide +kernel)) (ax (cq (by decide +kernel)) (ax (cq (by decide +kernel)) (ax (cq (by decide +kernel)) (ax (cq (by decide +kernel)) (ax (cq (by decide +kernel)) (ax (cq (by decide +kernel)) (cf (cq (by decide +kernel)) (a9 (af (ds:=[v]) rfl h)))))))))))
noncomputable def row (h:Int)(kind:Str)(ao:LD):D:=.tup [.int h,.tup (.str kind::ao)]
noncomputable def cA (z:Str):Bool:=vM (.str z) [.str "by",.str "person",.str "whom"]
def there:D->Bool
 |.non=>false
 |_=>true
@[simp] def Gw:there .non=false:=rfl
@[simp] def Gx (z:Str):there (.str z)=true:=rfl
@[simp] def Gy (z:Int):there (.int z)=true:=rfl
@[simp] def Gz (z:LD):there (.tup z)=true:=rfl
def q8 (d:D)(h:u5 d=false):oi d .non=some (.bl (there d),false):=by
 cases d<;>simp[oh,there]at h ⊢
noncomputable def jO (l:List (Str×D)):LD:=(l.filter λx=>cA x.1 && there x.2).map (·.2)
noncomputable def P6:LS:=[("a" : Str),("b" : Str),("ab" : Str),("ba" : Str),("abcdefgh" : Str),("z" : Str)]
noncomputable def off (k:Nat):Str:=("k" : Str)++⟨#[("abcdefghijklmnopqrstuvwxyz" : Str).cps.toList.getD (k % 26) 0]⟩
def zX:∀k:_root_.Fin 26,ib (off k.val)=true:=by decide +kernel
def Ct {k:Nat}(h:k<26):ib (off k)=true:=zX ⟨k,h⟩
def q9:∀j k:_root_.Fin 26,off j.val=off k.val->j=k:=by decide +kernel
def zY {j k:Nat}(hj:j<26)(hk:k<26)(h:off j=off k):j=k:=by have:=q9 ⟨j,hj⟩ ⟨k,hk⟩ h;injection this
structure DeedG (k:Nat)(h:Int)(kind:Str)(ao:List D):Prop where
 parts:∃(parts:List Str)(ss:List Str),iV bv (.str kind)=some (.tup (parts.map .str),false)/\parts.length=ao.length/\(∀x∈parts.zip ao,aR [.str x.1,x.2]=some (.bl true,false))/\jO (parts.zip ao)=ss.map .str/\ss.length<=2/\∀s∈ss,s∈P6
 len:ao.length<=10
 flat:∀d∈ao,aZ d=true/\u5 d=false/\aA 10 d=true
 day:(kind=("root" : Str)/\∃r,ao=.str (off k)::r)∨(kind≠("root" : Str)/\(∃(day:Int)(r:List D),ao=.int day::r/\day<=h/\0<=day/\(kind=("chosen" : Str)->∃a b c s,r=[a,b,c,.int s]/\day<=s))/\jH bv (.str kind) (.str "day")=some (.int 0,false))
def iG (k:Nat)(r:D):Prop:=∃h kind ao,r=row h kind ao/\0<=h/\h<=9999/\DeedG k h kind ao
def fH (h:Int)(kind:Str)(ao:LD):be [row h kind ao]=some (.str kind,false):=av rfl (a9 (by simp[row,Dg,AU]))
def hZ {h:Int}{k:Str}{ao:LD}{part:Str}{i:Nat}{d:D}(hi:jH bv (.str k) (.str part)=some (.int i,false))(hd:ao[i]? = some d):b9 [row h k ao,.str part]=some (d,false):=by
 refine av rfl (a9 ?_);refine a7 (x:=.tup (.str k::ao)) (y:=.int (1+i)) (b1:=false) (b2:=false) (by simp[row,Dg]) (a7 (x:=.int 1) (y:=.int i) (b1:=false) (b2:=false) rfl (a7 (x:=.str k) (y:=.str part) (b1:=false) (b2:=false) (af (ds:=[row h k ao]) rfl (fH _ _ _)) rfl hi) (by simp)) ?_;have G:i<ao.length:=(vV hd).1;have:kT (.str k::ao) (1+(i:Int))=some d:=by
  have:=l8 (xs:=(.str k:D)::ao) (j:=i+1) (by simp;omega);rw[show(1+(i:Int))=((i+1:Nat):Int) by omega,this];simp only[List.getElem_cons_succ];rw[vU G]at hd;exact hd
 simp[this]
def Ep (k q:Str):cL (.str k) (.str q)=some (.bl (decide (k=q)),false):=by simp
noncomputable def xY:D->D
 |.tup [_,.tup (.str _::.int d::_)]=>.int d
 |_=>.non
def xZ {k:Nat}{h:Int}{kind:Str}{ao:LD}(g:DeedG k h kind ao):jp [row h kind ao]=some (xY (row h kind ao),false):=by
 rcases g.day with⟨e,r,rfl⟩|⟨e,⟨day,r,rfl,_⟩,hi⟩
 ·exact av rfl (cf (aB (b:=false) (a7 (x:=.str kind) (y:=.str "root") (b1:=false) (b2:=false) (af (ds:=[row h kind (.str (off k)::r)]) rfl (fH _ _ _)) rfl (by rw[Ep,decide_eq_true e]))) (a9 rfl))
 ·exact av rfl (ax (aB (b:=false) (a7 (x:=.str kind) (y:=.str "root") (b1:=false) (b2:=false) (af (ds:=[row h kind (.int day::r)]) rfl (fH _ _ _)) rfl (by rw[Ep,decide_eq_false e]))) (a9 (af (ds:=[row h kind (.int day::r),.str "day"]) rfl (hZ (i:=0) hi rfl))))
def ya {k:Nat}{h:Int}{kind:Str}{ao:LD}(g:DeedG k h kind ao):jL [.tup (.str kind::ao)]=some (.bl true,false):=by
 obtain⟨parts,ss,G,hl,ha,_⟩:=g.parts;have M:(bv.lookup kind).isSome=true:=by
  simp only[iV]at G;obtain⟨d,h1,_⟩:=oY G;rw[h1];rfl
 have hsz:=g.len;have O:f2 bB (ag 0) (fC (.int 0)) [some (.tup (.str kind::ao),false)]=some (.str kind,false):=by simp[AU]
 have T:f1 (iV bv) (f2 bB (ag 0) (fC (.int 0))) [some (.tup (.str kind::ao),false)]=some (.tup (parts.map .str),false):=tP (x:=.str kind) (b:=false) O G;refine av rfl (ax (bG (p:=false) (q:=false) (by simp) λ_=>bG (p:=false) (q:=false) (aB (b:=false) (by simp;omega)) λ_=>c7 (p:=true) (aB (b:=false) (af (ds:=[.str kind,.ty "str"]) (au O rfl) (by simp)))) (ax (bG (p:=false) (q:=false) (aB (b:=false) (tP (x:=.str kind) (b:=false) O ?_)) λ_=>aB (b:=false) (a7 (x:=.int ((ao.length+1:Nat):Int)) (y:=.int (1+(parts.length:Int))) (b1:=false) (b2:=false) (by simp) (a7 (x:=.int 1) (y:=.int parts.length) (b1:=false) (b2:=false) rfl (af (ds:=[.tup (parts.map .str)]) (au T rfl) (by simp)) (by simp)) ?_)) (a9 (af (ds:=[.lst ((parts.zip ao).map λ_=>.bl true)]) ?_ (jv _)))))
 ·simp only[ll,M];rfl
 ·simp;omega
 ·have:=jl (fi:=uB (f1 (iV bv) (f2 bB (ag 0) (fC (.int 0)))) (jz (ag 0) (bo (fC (.int 1))) dg)) (nT:=2) (cap:=[]) (tg:=mG [0,1]) (fe:=fA aR (ae (ag 0) (ae (ag 1) ak))) (ρ:=[some (.tup (.str kind::ao),false)]) (parts.zip ao) (λx=>.tup [.str x.1,x.2]) (λ_=>.bl true)
   (by
    show(f1 (iV bv) _ _).bind _=_;rw[T];simp[Cq,qw]) (by rw[length_zip];omega) λx hx=>by
    have U:=g.flat x.2 (of_mem_zip hx).2;exact⟨_,rfl,false,af (ds:=[.str x.1,x.2]) (by simp[gL]) (ha x hx)⟩
  exact au (b:=true) this rfl
def G0:D->Int
 |.tup (.int h::_)=>h
 |_=>0
def vi (r:D):aZ (xY r)=true:=by
 unfold xY;split<;>rfl
def rS {k:Nat}{h:Int}{kind:Str}{ao:LD}(g:DeedG k h kind ao):gS [row h kind ao]=some (.bl true,false):=by
 have hd:=xZ g;have G:∀ {hh:FS}{r:Option Res},hh [some (row h kind ao,false),some (xY (row h kind ao),false)]=r->aC (bf 1 (fA jp (ae (ag 0) ak))) hh [some (row h kind ao,false),none]=r:=λe=>bt (d:=xY (row h kind ao)) (b:=false) (af (ds:=[row h kind ao]) rfl hd) (vi _) e;rcases g.day with⟨e,r,rfl⟩|⟨e,⟨day,r,rfl,O,T,M⟩,hi⟩
 ·exact av rfl (G (cf (aB (b:=false) (a7 (x:=.non) (y:=.non) (b1:=false) (b2:=false) rfl rfl (by simp[oh]))) (a9 rfl)))
 ·refine av rfl (G (ax (aB (b:=false) (a7 (x:=.int day) (y:=.non) (b1:=false) (b2:=false) rfl rfl (by simp[oh]))) (ax ((tI (p:=decide (kind=("chosen" : Str))) (q:=false) (aB (b:=false) (a7 (x:=.str kind) (y:=.str "chosen") (b1:=false) (b2:=false) (af (ds:=[row h kind (.int day::r)]) rfl (fH _ _ _)) rfl (Ep _ _))) λhc=>?_).trans (by rw[Bool.and_false])) (a9 ?_))))
  ·have hc:=of_decide_eq_true hc;subst hc;obtain⟨a,b,c,s,rfl,hs⟩:=M rfl;refine aB (b:=false) (a7 (x:=.int s) (y:=.int day) (b1:=false) (b2:=false) (af (ds:=[row h ("chosen" : Str) [.int day,a,b,c,.int s],.str "since"]) rfl (hZ (i:=4) (aX (by decide +kernel)) rfl)) rfl ?_);simp;omega
  ·refine a7 (x:=.int day) (y:=.int h) (b1:=false) (b2:=false) rfl (by simp[row,AU]) ?_;simp;omega
def zZ {k:Nat}{r:D}(g:iG k r):lG [r]=some (.bl true,false):=by
 obtain⟨h,kind,ao,rfl,h0,h1,g⟩:=g;refine av rfl (ax (bG (p:=false) (q:=false) (by simp[row]) λ_=>by simp[row]) (a9 ((da (p:=true) (q:=true) (b1:=false) (af (ds:=[.int h]) (by simp[row,AU]) (kJ h0 h1)) λ_=>(da (p:=true) (q:=true) (b1:=false) (af (ds:=[.tup (.str kind::ao)]) (by simp[row,Dg]) (ya g)) λ_=>af (ds:=[row h kind ao]) rfl (rS g)).trans rfl).trans rfl)))
noncomputable def kindOf:D->Str
 |.tup [_,.tup (.str k::_)]=>k
 |_=>("" : Str)
noncomputable def nF:D->Str
 |.tup [_,.tup (_::.str o::_)]=>o
 |_=>("" : Str)
def lS (r:D):Bool:=decide (kindOf r=("root" : Str))
def Aa:jH bv (.str "root") (.str "office")=some (.int 0,false):=aX (by decide +kernel)
def lT {k:Nat}{r:D}(g:iG k r)(h:lS r=true):b9 [r,.str "office"]=some (.str (nF r),false)/\nF r=off k:=by
 obtain⟨a,kind,ao,rfl,_,_,g⟩:=g;have h:kind=("root" : Str):=of_decide_eq_true h;subst h;rcases g.day with⟨_,r,rfl⟩|⟨e,_⟩
 ·exact⟨hZ (i:=0) Aa rfl,rfl⟩
 ·exact absurd rfl e
def gz {k:Nat}{r:D}(g:iG k r):be [r]=some (.str (kindOf r),false):=by
 obtain⟨a,kind,ao,rfl,_⟩:=g;exact fH _ _ _
def lU (k:Str)(G:LS):vM (.str k) (G.map .str)=decide (k∈G):=by
 induction G with
 |nil=>simp[vM]
 |cons w G M=>
  have:vM (.str k) ((w::G).map .str)=(cx (.str w) (.str k) || vM (.str k) (G.map .str)):=rfl;rw[this,M,pz];by_cases e:w=k
  ·simp[e]
  ·have O:¬k=w:=λz=>e z.symm;simp[e,O]
def jP (G:LS):(G.map D.str).all cO=true:=by
 induction G with
 |nil=>rfl
 |cons w G M=>simp[cO]
def Ab (k:Str)(G:LS):z4 (.str k) (.lst (G.map .str))=some (.bl (decide (k∈G)),false):=by
 simp only[z4,fB,vJ,lU];rw[if_pos ⟨rfl,jP G⟩]
def qA (ai:LD):Prop:=ai.length<=24/\∀(j:Nat) r,ai[j]? = some r->iG j r
def qA.mem {ai:LD}(g:qA ai){r:D}(h:r∈ai):∃k,iG k r:=by
 obtain⟨j,hj⟩:=List.mem_iff_getElem?.mp h;exact⟨j,g.2 j r hj⟩
def vj {ai:LD}(g:qA ai){i:Nat}{r:D}(hr:ai[i]? = some r):dq [.tup (ai.take i),r]=some (.bl false,false):=by
 have hi:=(vV hr).1;have gr:=g.2 i r hr;have Ln:=g.1;refine av rfl (a9 ((da (p:=lS r) (q:=false) (b1:=false) (a7 (x:=.str (kindOf r)) (y:=.str "root") (b1:=false) (b2:=false) (af (ds:=[r]) rfl (gz gr)) rfl (Ep _ _)) λM=>?_).trans (by rw[Bool.and_false])));obtain⟨ho,T⟩:=lT gr M;have G:∀x∈ai.take i,∃j,j<i/\iG j x:=λx hx=>by
  obtain⟨j,hj⟩:=List.mem_iff_getElem?.mp hx;rw[List.getElem?_take]at hj;split at hj
  ·rename_i U;exact⟨j,U,g.2 j x hj⟩
  ·cases hj
 have hc:=xP (fi:=ft (ag 0)) (nT:=1) (cap:=[]) (tg:=eI 0) (c:=br (f2 cL (fA be (ae (ag 0) ak)) (fC (.str "root")))) (fe:=fA b9 (ae (ag 0) (ae (fC (.str "office")) ak))) (ρ:=[some (.tup (ai.take i),false)]) (ai.take i) (λx=>x) lS (λx=>.str (nF x)) (by simp) (by simp;omega) λx hx=>by
  obtain⟨j,hj,O⟩:=G x hx;exact⟨_,rfl,aB (b:=false) (a7 (x:=.str (kindOf x)) (y:=.str "root") (b1:=false) (b2:=false) (af (ds:=[x]) (by simp[gL]) (gz O)) rfl (Ep _ _)),λhx=>⟨false,af (ds:=[x,.str "office"]) (by simp[gL]) (lT O hx).1⟩⟩
 have KE:eZ [.tup (ai.take i)]=some (.lst ((((ai.take i).filter lS).map nF).map .str),true):=by
  rw[map_map];exact av rfl (a9 hc)
 refine a7 (x:=.str (nF r)) (y:=.lst ((((ai.take i).filter lS).map nF).map .str)) (b1:=false) (b2:=true) (af (ds:=[r,.str "office"]) rfl ho) (af (ds:=[.tup (ai.take i)]) rfl KE) ?_;rw[Ab];congr 3;refine decide_eq_false λqN=>?_;obtain⟨x,hx,e⟩:=mem_map.mp qN;obtain⟨hx,KG⟩:=mem_filter.mp hx;obtain⟨j,hj,O⟩:=G x hx;rw[T,(lT O KG).2]at e;have:=zY (by omega) (by omega) e;omega
theorem qB:∀(ss G:LS){x:Str},x∈ss.foldl gq G->x∈G∨x∈ss
 |[],G,x,h=>.inl h
 |y::ss,G,x,h=>by
  rw[List.foldl_cons]at h;rcases qB ss (gq G y) h with h|h
  ·rcases xk.mp h with h|h
   ·exact .inl h
   ·exact .inr (h ▸ mX)
  ·exact .inr (mZ _ h)
theorem lV:∀(ss G:LS),G.Nodup->(ss.foldl gq G).Nodup
 |[],G,h=>h
 |y::ss,G,h=>lV ss (gq G y) (rB h y)
def qC {ss:LS}{x:Str}(h:x∈fw ss):x∈ss:=by
 rcases qB ss [] h with h|h
 ·cases h
 ·exact h
theorem qD:∀(l m:LS),l.Nodup->(∀x∈l,x∈m)->l.length<=m.length
 |[],m,_,_=>uO _
 |x::l,m,h,s=>by
  rw[nodup_cons]at h;have hx:=s x mX;have:=qD l (m.erase x) h.2 λy hy=>(List.mem_erase_of_ne (a:=y) (b:=x) (λe=>h.1 (by rw[←e];exact hy))).mpr (s y (mZ _ hy));rw[List.length_erase_of_mem hx]at this;have:0<m.length:=List.length_pos_of_mem hx;rw[vE];omega
def yc {h:Int}{kind:Str}{ao:LD}{parts:LS}(G:iV bv (.str kind)=some (.tup (parts.map .str),false)):dr [row h kind ao]=some (.lst ((parts.zip ao).map λx=>.tup [.str x.1,x.2]),true):=by
 refine av rfl (a9 ?_);have M:f1 (iV bv) (fA be (ae (ag 0) ak)) [some (row h kind ao,false)]=some (.tup (parts.map .str),false):=tP (x:=.str kind) (b:=false) (af (ds:=[row h kind ao]) rfl (fH h kind ao)) G;have O:jz (f2 bB (ag 0) (fC (.int 1))) (bo (fC (.int 1))) dg [some (row h kind ao,false)]=some (.tup ao,false):=by simp[row,Dg,Cq]
 show(((f1 (iV bv) (fA be (ae (ag 0) ak)) [some (row h kind ao,false)]).bind λx=>(jz (f2 bB (ag 0) (fC (.int 1))) (bo (fC (.int 1))) dg [some (row h kind ao,false)]).bind λy=>(fB x.1).bind λxs=>(fB y.1).map λys=>dL xs ys).map λds=>(D.lst ds,true))=_;rw[M,O];simp[qw]
def vk {k:Nat}{r:D}(g:iG k r):∃ss:LS,dN [r]=some (.lst (ss.map .str),true)/\ss.length<=2/\∀s∈ss,s∈P6:=by
 obtain⟨h,kind,ao,rfl,_,_,g⟩:=g;obtain⟨parts,ss,U,hl,_,hk,M,O⟩:=g.parts;have G:=xP (fi:=ft (fA dr (ae (ag 0) ak))) (nT:=2) (cap:=[]) (tg:=mG [0,1]) (c:=jV (br (f2 z4 (ag 0) (fC cu))) (br (f2 oi (ag 1) (fC .non)))) (fe:=ag 1)
  (ρ:=[some (row h kind ao,false),none]) (parts.zip ao) (λx=>.tup [.str x.1,x.2]) (λx=>cA x.1 && there x.2) (·.2) (by
   have e1:fA dr (ae (ag 0) ak) [some (row h kind ao,false),none]=_:=af (ds:=[row h kind ao]) rfl (yc U);show Option.bind (fA dr (ae (ag 0) ak) [some (row h kind ao,false),none]) _=_;rw[e1];rfl) (by
   have:=g.len;rw[length_zip];omega) λx hx=>by
   have T:=(g.flat x.2 (of_mem_zip hx).2);refine⟨_,rfl,tI (aB (b:=false) ?_) λ_=>aB (b:=false) ?_,λ_=>⟨false,?_⟩⟩
   ·refine a7 (x:=.str x.1) (y:=cu) (b1:=false) (b2:=false) (by simp[gL]) rfl ?_;simp[cu,cA,cO]
   ·exact a7 (x:=x.2) (y:=.non) (b1:=false) (b2:=false) (by simp[gL]) rfl (q8 _ T.2.1)
   ·simp[gL]
 refine⟨iX (fw ss),av rfl (cP (ds:=ss.map .str) ?_ (bq ss) (a9 ?_)),?_,?_⟩
 ·exact hk ▸ G
 ·have:ss.length<64:=by omega
  simp[this]
 ·rw[(dm _).length_eq];exact vR (lm ss) M
 ·intro s hs;exact O s (qC ((dm _).mem_iff.mp hs))
def ye (G:LS):fD (G.map .str)=some G:=by
 induction G with
 |nil=>rfl
 |cons z G M=>simp[M]
def vm {ai:LD}(g:∀r∈ai,∃k,iG k r)(hl:ai.length<=60):∃n:Nat,fg [.tup ai]=some (.int n,false)/\n<=6:=by
 obtain⟨ρ',e,G,v,rfl,hz,M⟩:=jh (tg:=eI 2) (g:=gE) (λi ρ=>∃(G:LS)(v:OB),ρ=[some (.tup ai,false),some (.lst (G.map .str),true),v]/\G.length<=2*i/\∀z∈G,z∈P6) ai
  [some (.tup ai,false),some (.lst [],true),none] ⟨[],none,rfl,by simp,by simp⟩ (by
   rintro i d ρ hd ⟨G,v,rfl,hz,M⟩;have hi:=(vV hd).1;obtain⟨k,U⟩:=g d (mem_of_getElem? hd);obtain⟨ss,hp,FH,O⟩:=vk U;have hsz:(G.map D.str).length+(ss.map D.str).length<=sizeLine:=db (by simp;omega);refine⟨_,[some (.tup ai,false),some (.lst ((G++ss).map .str),true),some (d,false)],rfl,.inl ?_,G++ss,some (d,false),rfl,by simp;omega,?_⟩
   ·have hv:fA dN (ae (ag 2) ak) [some (.tup ai,false),some (.lst (G.map .str),true),some (d,false)]=some (.lst (ss.map .str),true):=af (ds:=[d]) rfl hp;show xi 1 (fA dN (ae (ag 2) ak)) [some (.tup ai,false),some (.lst (G.map .str),true),some (d,false)]=_;simp only[xi,List.getElem?_cons_succ,List.getElem?_cons_zero,hv,vJ];rw[if_pos ⟨trivial,bq ss,hsz⟩];simp
   ·intro z T;rcases mem_append.mp T with h|h
    ·exact M z h
    ·exact O z h)
 refine⟨(fw G).length,av rfl (cP (ds:=[]) (by simp[sizeLine]) rfl (e8 (hW (ds:=ai) (by simp[eM]) e) (a9 (tP (x:=.lst (G.map .str)) (b:=false) rfl ?_)))),?_⟩
 ·have:G.length<4000:=by omega
  simp only[iZ,ye,vJ,if_pos this]
 ·exact qD (fw G) P6 (lV G [] nodup_nil) λz hz=>M z (qC hz)
def lW {ai:LD}{i:Nat}{r:D}(h:ai[i]? = some r):kT ai (i:Int)=some r:=by
 have G:i<ai.length:=(vV h).1;rw[l8 G,←h,vU G]
def rT {ai:LD}(g:qA ai){i:Nat}(hi:i<ai.length):gv [.tup ai,.int i]=some (.bl false,false):=by
 obtain⟨r,O⟩:∃r,ai[i]? = some r:=⟨_,vU hi⟩;have ha:=lW O;have T:=g.1;have G:∀ρ:DL.Env,ρ[0]? = some (some (.tup ai,false))->ρ[1]? = some (some (.int i,false))->f2 bB (ag 0) (ag 1) ρ=some (r,false):=λρ h0 h1=>by simp[h0,h1,ha]
 obtain⟨n,hn,U⟩:=vm (ai:=ai.take (i+1)) (λx hx=>g.mem (List.mem_of_mem_take hx)) (by simp;omega);have M:=qv ai (i+1);rw[Int.natCast_add]at M;refine av rfl (ax (bG (p:=false) (q:=false) (aB (b:=false) (by simp[dM];omega)) λ_=>c7 (p:=true) (aB (b:=false) (af (ds:=[r]) (au (G _ rfl rfl) rfl) (zZ (g.2 i r O))))) (a9 ((AS (p:=false) (q:=false) (b1:=false) (af (ds:=[.tup (ai.take i),r]) (au (d:=.tup (ai.take i)) (b:=false) (by simp[qv]) (au (G _ rfl rfl) rfl)) (vj g O)) λ_=>a7 (x:=.int n) (y:=.int 20) (b1:=false) (b2:=false) (af (ds:=[.tup (ai.take (i+1))]) (au (d:=.tup (ai.take (i+1))) (b:=false) (by simp;exact M) rfl) hn) rfl (by simp;omega)).trans rfl)))
def qE {ai:LD}(g:qA ai)(hf:bA ai=true)(d:D)(hd:d=.lst ai∨d=.tup ai):fM [d]=some (.tup ai,false):=by
 have hl:=g.1;obtain⟨ρ',e,v,rfl⟩:=ji (tg:=eI 2) (g:=gV) ai.length (λi ρ=>∃v:OB,ρ=[some (d,false),some (.tup ai,false),v])
  [some (d,false),some (.tup ai,false),none] ⟨none,rfl⟩ (by
   rintro i ρ hi ⟨v,rfl⟩;exact⟨_,_,rfl,.inl (mw (aB (b:=false) (af (ds:=[.tup ai,.int i]) rfl (rT g hi))) rfl),some (.int i,false),rfl⟩)
 refine av rfl (ax (c7 (p:=true) (aB (b:=false) (af (ds:=[d,.tup [.ty "list",.ty "tuple"]]) (au rfl (au (d:=.tup [.ty "list",.ty "tuple"]) (b:=false) (by simp[sizeLine]) rfl)) ?_))) (bt (d:=.tup ai) (b:=false) (af (ds:=[d]) rfl ?_) (by simp[hf]) (e8 (gP (eK (j:=ai.length) (b:=false) (by simp) (by omega)) e) (kH rfl))))
 ·rcases hd with rfl|rfl<;>simp
 ·rcases hd with rfl|rfl<;>simp
def cI:PySem.Str:="abcdefghijklmnopqrstuvwxyz"
def eF:cI.cps.size=26:=by decide +kernel
def yf (z:Str):z.length=z.cps.size:=rfl
theorem qF:∀(G:LS)(y:Str),(Str.join ("" : Str) (y::G)).cps.toList=(y::G).flatMap λz=>z.cps.toList
 |[],y=>by rw[List.flatMap_cons,List.flatMap_nil,append_nil];rfl
 |z::r,y=>by
  have M:∀a b:Str,(a++b).cps.toList=a.cps.toList++b.cps.toList:=λa b=>by show(a.cps++b.cps).toList=_;simp
  show(y++("" : Str)++Str.join ("" : Str) (z::r)).cps.toList=_;rw[M,M,qF r z,show("" : Str).cps.toList=[]from rfl,append_nil];rfl
def yg {G:LS}(h:G≠[]):(Txt.join ("" : Str) G).cps.toList=G.flatMap λz=>z.cps.toList:=by
 cases G with
 |nil=>exact absurd rfl h
 |cons y G=>
  unfold Txt.join;rw[StrLaws.glued_eq_join];exact qF G y
def yh:∀i:_root_.Fin 26,qx (cI.cps.toList.getD i.val 0)=true:=by decide +kernel
def ge (x:Int):∃z:Str,gb [.int x]=some (.str z,false)/\ib z=true:=by
 have h8:=mod_lt (x:=x) (m:=8) (by decide);obtain⟨n,hn⟩:∃n:Nat,1+x % 8=n:=⟨(1+x % 8).toNat,by omega⟩;have M:=jl (fi:=dj (f2 bC (fC (.int 1)) (f2 bF (ag 0) (fC (.int 8))))) (nT:=1) (cap:=[1,0]) (tg:=eI 0)
  (fe:=f2 bB (ag 1) (f2 bF (f2 bC (f2 iP (ag 2) (fC (.int 8))) (f2 gI (ag 0) (f2 iP (ag 2) (fC (.int 211))))) (fC (.int 26)))) (ρ:=[some (.int x,false),some (.str cI,false)])
  ((List.range n).map λ(k:Nat)=>(k:Int)) .int (λk=>.str ⟨#[cI.cps.toList.getD ((x / 8+k*(x / 211)) % 26).toNat 0]⟩)
  (by rw[←nn];exact eK (j:=n) (b:=false) (by simp[hn]) (by omega)) (by simp;omega) λk hk=>by
   have KH : -18446744073709551616<k/\k<18446744073709551616:=by
    obtain⟨j,hj,rfl⟩:=mem_map.mp hk;have:=mem_range.mp hj;omega
   have O:=mod_lt (x:=x / 8+k*(x / 211)) (m:=26) (by decide);exact⟨_,rfl,false,by simp[-bB,-List.getD_eq_getElem?_getD,gL,KH];exact DL.nL O.1 (by rw[eF];omega) (by rw[yf,eF];omega)⟩
 let G:LS:=((List.range n).map λ(k:Nat)=>(k:Int)).map λk=>⟨#[cI.cps.toList.getD ((x / 8+k*(x / 211)) % 26).toNat 0]⟩;have T:(G.map (·.length)).sum=n:=by
  have:=xS ((List.range n).map λ(k:Nat)=>(k:Int)) (λk=>(⟨#[cI.cps.toList.getD ((x / 8+k*(x / 211)) % 26).toNat 0]⟩:Str)) λy _=>rfl;rw[vI,length_range]at this;exact this
 have e0:(("" : Str)).length=0:=by decide +kernel
 have F4:G≠[]:=λz=>by have:=congrArg List.length z;simp[G]at this;omega
 have U:(Txt.join ("" : Str) G).cps.toList=((List.range n).map λ(k:Nat)=>cI.cps.toList.getD ((x / 8+(k:Int)*(x / 211)) % 26).toNat 0):=by
  rw[yg F4];show List.flatMap _ (List.map _ (List.map _ (List.range n)))=_;rw[map_map,List.flatMap_map,←List.flatMap_singleton' (List.map _ _),List.flatMap_map];rfl
 have KI:ib (Txt.join ("" : Str) G)=true:=by
  unfold ib;have lZ:(Txt.join ("" : Str) G).length=n:=by rw[←qz,U,vI,length_range]
  rw[lZ,U,vD,vD,all_eq_true];refine⟨⟨decide_eq_true (by omega),decide_eq_true (by omega)⟩,λc hc=>?_⟩;obtain⟨k,_,rfl⟩:=mem_map.mp hc;have O:=mod_lt (x:=x / 8+(k:Int)*(x / 211)) (m:=26) (by decide);exact yh ⟨((x / 8+(k:Int)*(x / 211)) % 26).toNat,by omega⟩
 refine⟨Txt.join ("" : Str) G,av rfl (bt (d:=.str cI) (b:=false) rfl rfl (a9 ?_)),KI⟩;show((cD _ _ _ _ _ _ [some (D.int x,false),some (.str cI,false)]).bind _)=_;rw[M];have hm:(((List.range n).map λ(k:Nat)=>(k:Int)).map λk=>D.str ⟨#[cI.cps.toList.getD ((x / 8+k*(x / 211)) % 26).toNat 0]⟩)=G.map D.str:=by simp[G]
 rw[hm];simp only[vJ,iS,u9];rw[T,e0,if_pos (by omega)]
def yi {a b:Int}(ha : -18446744073709551616<a/\a<18446744073709551616)(hb : -18446744073709551616<b/\b<18446744073709551616):gI (.int a) (.int b)=some (.int (a*b),false):=by simp[ha,hb]
def vn (ns:LI):∃c:Int,gX [.lst (ns.map .int),.int 0]=some (.int c,false):=by
 cases ns with
 |nil=>exact⟨0,av rfl (ax (aB (b:=false) (by simp)) (a9 rfl))⟩
 |cons c ns=>exact⟨c,av rfl (cf (aB (b:=false) (by simp)) (a9 (by simp[AU])))⟩
def jK (c:Int)(s m:Nat)(hs:s<=100)(hm:m<=100):∃xs:LI,cK [.int c,.int s,.int m]=some (.lst (xs.map .int),true)/\xs.length=m/\∀x∈xs,0<=x/\x<2147483647:=by
 let E:LI->Int->OB->DL.Env:=λxs x v=>[some (.int c,false),some (.int s,false),some (.int m,false),some (.lst (xs.map .int),true),some (.int x,false),v];have U:=mod_lt (x:=c) (m:=2147483647) (by decide);obtain⟨M,O⟩:∃M,(c % 2147483647*48271+(s:Int)*(s:Int)*69621+11) % 2147483647=M:=⟨_,rfl⟩;have T:=mod_lt (x:=c % 2147483647*48271+(s:Int)*(s:Int)*69621+11) (m:=2147483647) (by decide);rw[O]at T;obtain⟨ρ',e,xs,x,v,rfl,hl,hx,G⟩:=ji (tg:=eI 5) (g:=kj) m (λi ρ=>∃xs x v,ρ=E xs x v/\xs.length=i/\(0<=x/\x<2147483647)/\∀y∈xs,0<=y/\y<2147483647) (E [] M none) ⟨[],M,none,rfl,rfl,T,by simp⟩ (by
  rintro i ρ hi ⟨xs,x,v,rfl,hl,hx,G⟩;obtain⟨y,hy⟩:∃y,(x*x+48271*x+(i:Int)+(s:Int)) % 2147483647=y:=⟨_,rfl⟩;have hb:=mod_lt (x:=x*x+48271*x+(i:Int)+(s:Int)) (m:=2147483647) (by decide);rw[hy]at hb;refine⟨E xs x (some (.int i,false)),E (xs++[y]) y (some (.int i,false)),rfl,.inl (bt (d:=.int y) (b:=false) ?_ rfl ?_),_,_,_,rfl,by rw[vA,length_singleton,hl],hb,?_⟩
  ·refine a7 (x:=.int (x*x+48271*x+(i:Int)+(s:Int))) (y:=.int 2147483647) (b1:=false) (b2:=false) (a7 (x:=.int (x*x+48271*x+(i:Int))) (y:=.int s) (b1:=false) (b2:=false) (a7 (x:=.int (x*x+48271*x)) (y:=.int i) (b1:=false) (b2:=false) (a7 (x:=.int (x*x)) (y:=.int (48271*x)) (b1:=false) (b2:=false) (a7 (x:=.int x) (y:=.int x) (b1:=false) (b2:=false) rfl rfl (yi (by omega) (by omega))) (a7 (x:=.int 48271) (y:=.int x) (b1:=false) (b2:=false) rfl rfl (yi (by omega) (by omega))) rfl) rfl rfl) rfl rfl) rfl ?_;rw[←hy];rfl
  ·refine(lC (ds:=xs.map .int) (d:=.int y) (b:=false) rfl rfl rfl (bP (by rw[vI];omega))).trans ?_;simp[E]
  ·intro z hz;rcases mem_append.mp hz with h|h
   ·exact G z h
   ·rw[uU h];exact hb)
 refine⟨xs,av rfl (cP (ds:=[]) rfl rfl (bt (d:=.int M) (b:=false) ?_ rfl (e8 (gP (eK (j:=m) (b:=false) rfl (by omega)) e) (kH rfl)))),hl,G⟩;refine a7 (x:=.int (c % 2147483647*48271+(s:Int)*(s:Int)*69621+11)) (y:=.int 2147483647) (b1:=false) (b2:=false) (a7 (x:=.int (c % 2147483647*48271+(s:Int)*(s:Int)*69621)) (y:=.int 11) (b1:=false) (b2:=false) (a7 (x:=.int (c % 2147483647*48271)) (y:=.int ((s:Int)*(s:Int)*69621)) (b1:=false) (b2:=false) (a7 (x:=.int (c % 2147483647)) (y:=.int 48271) (b1:=false) (b2:=false) (a7 (x:=.int c) (y:=.int 2147483647) (b1:=false) (b2:=false) rfl rfl rfl) rfl (yi (by omega) (by omega))) (a7 (x:=.int ((s:Int)*(s:Int))) (y:=.int 69621) (b1:=false) (b2:=false) (a7 (x:=.int s) (y:=.int s) (b1:=false) (b2:=false) rfl rfl (yi (by omega) (by omega))) rfl (yi ?_ (by omega))) rfl) rfl rfl) rfl ?_
 ·have h1:(s:Int)*(s:Int)<=100*100:=Int.mul_le_mul (by omega) (by omega) (by omega) (by omega);have h2:0<=(s:Int)*(s:Int):=Int.mul_nonneg (by omega) (by omega);omega
 ·rw[←O];rfl
abbrev Ch:=Nat×Str
def dX (c:Ch):D:=.tup [.int (c.1:Int),.str c.2]
structure ChOk (cs:List Ch):Prop where
 len:cs.length<=8
 at':∀c∈cs,c.1<8/\ib c.2=true
 inc:cs.Pairwise λa b=>a.1<b.1
def rV {c:Ch}(h:c.1<8/\ib c.2=true):fF [dX c]=some (.bl true,false):=by
 refine av rfl (ax (bG (p:=false) (q:=false) (by simp[dX]) λ_=>by simp[dX]) (a9 ((da (p:=true) (q:=true) (b1:=false) (af (ds:=[.int (c.1:Int),.int 0,.int 7]) (by simp[dX,AU,dE]) (gd (by omega) (by omega))) λ_=>af (ds:=[.str c.2]) (by simp[dX,Dg]) (nE h.2)).trans rfl)))
theorem tR:∀(l:LI),l.Pairwise (· < ·)->∀x∈l.zip (l.drop 1),x.1<x.2
 |[],_,x,hx=>by simp at hx
 |[a],_,x,hx=>by simp at hx
 |a::b::l,h,x,hx=>by
  rw[List.drop_succ_cons,List.drop_zero,zip_cons_cons]at hx;rcases vP hx with rfl|hx
  ·exact(pairwise_cons.mp h).1 b mX
  ·exact tR (b::l) (pairwise_cons.mp h).2 x hx
theorem Er:∀a b:LI,dL (a.map .int) (b.map .int)=(a.zip b).map λx=>.tup [.int x.1,.int x.2]
 |[],_=>by simp[dL]
 |_::_,[]=>by simp[dL]
 |x::a,y::b=>by
  have:=Er a b;unfold dL at this ⊢;rw[uZ,uZ,List.zipWith_cons_cons,this];rfl
def eA (ds:LD)(h:ds.length<=1000):bw ds=some (.tup ds,false):=by unfold bw;rw[if_pos (db (by omega))]
def Es (l:LD):dI l (some 1) none=l.drop 1:=by
 cases l with
 |nil=>rfl
 |cons a l=>exact Cq a l
def qG {cs:List Ch}(h:ChOk cs):eD [.tup (cs.map dX)]=some (.bl true,false):=by
 have hl:=h.len;have O:=jl (fi:=ft (ag 0)) (nT:=1) (cap:=[]) (tg:=eI 0) (fe:=fA fF (ae (ag 0) ak)) (ρ:=[some (.tup (cs.map dX),false),none]) cs dX (λ_=>.bl true) rfl (by omega) λc hc=>⟨[some (dX c,false)],rfl,false,af (ds:=[dX c]) rfl (rV (h.at' c hc))⟩;have c2:=jl (fi:=ft (ag 0)) (nT:=1) (cap:=[]) (tg:=eI 0) (fe:=ca 0 0) (ρ:=[some (.tup (cs.map dX),false),none]) cs dX (λc=>.int (c.1:Int)) rfl (by omega) λc hc=>⟨[some (dX c,false)],rfl,false,by simp[dX,AU]⟩;obtain⟨l,G⟩:∃l:LI,cs.map (λc=>(c.1:Int))=l:=⟨_,rfl⟩;have T:l.length=cs.length:=by rw[←G,vI]
 have M:l.Pairwise (· < ·):=by rw[←G];exact List.pairwise_map.mpr (h.inc.imp λh=>by omega)
 have U:cs.map (λc=>D.int (c.1:Int))=l.map .int:=by rw[←G,map_map];rfl
 rw[U]at c2;have c3:=jl (fi:=uB (ag 1) (jz (ag 1) (bo (fC (.int 1))) dg)) (nT:=2) (cap:=[]) (tg:=mG [0,1]) (fe:=f2 sP (ag 0) (ag 1)) (ρ:=[some (.tup (cs.map dX),false),some (.lst (l.map .int),true)]) (l.zip (l.drop 1)) (λx=>.tup [.int x.1,.int x.2]) (λ_=>.bl true) (by
   show some (dL (l.map .int) (dI (l.map .int) (some 1) none))=_;rw[Es,←map_drop,Er]) (by rw[length_zip];omega) λx hx=>⟨[some (.int x.1,false),some (.int x.2,false)],rfl,false,by
    have:=tR l M x hx;simp[this]⟩
 exact av rfl (ax (bG (p:=false) (q:=false) (by simp) λ_=>c7 (p:=true) (aB (b:=false) (af (ds:=[.lst (cs.map λ_=>.bl true)]) (au (b:=true) O rfl) (jv cs)))) (cP (ds:=l.map .int) c2 (gO _) (a9 (af (ds:=[.lst ((l.zip (l.drop 1)).map λ_=>.bl true)]) (au (b:=true) c3 rfl) (jv _)))))
def rW {v:D}(h:eD [v]=some (.bl true,false)):aR [.str "changes",v]=some (.bl true,false):=av rfl (ax (c2 (by decide +kernel)) (ax (c3 (by decide +kernel)) (ax (cq (by decide +kernel)) (ax (cq (by decide +kernel)) (ax (cq (by decide +kernel)) (ax (cq (by decide +kernel)) (ax (cq (by decide +kernel)) (ax (cq (by decide +kernel)) (ax (cq (by decide +kernel)) (a9 (af (ds:=[v]) rfl h)))))))))))
def qH (cs:List Ch):bA (cs.map dX)=true:=iE λd hd=>by obtain⟨c,_,rfl⟩:=mem_map.mp hd;rfl
def qI (xs:LI)(hl:xs.length<=8)(hx:∀x∈xs,0<=x):∃cs:List Ch,gY [.lst (xs.map .int)]=some (.tup (cs.map dX),false)/\ChOk cs:=by
 let E:List Ch->Nat->OB->DL.Env:=λcs p v=>[some (.lst (xs.map .int),false),some (.lst (cs.map dX),true),some (.int (p:Int),false),v];obtain⟨ρ',e,cs,p,v,rfl,h1,h2,h3,h4,h5⟩:=jh (tg:=eI 3) (g:=js) (λi ρ=>∃cs p v,ρ=E cs p v/\cs.length<=i/\(∀c∈cs,c.1<8/\ib c.2=true)/\cs.Pairwise (λa b=>a.1<b.1)/\(∀c∈cs,c.1<p)/\p<=3*i) (xs.map .int) (E [] 0 none) ⟨[],0,none,rfl,vT _,by simp,List.Pairwise.nil,by simp,vT _⟩ (by
  rintro i d ρ hd ⟨cs,p,v,rfl,h1,h2,h3,h4,h5⟩;rw[vB]at hd;obtain⟨x,O,rfl⟩:=oY hd;have hi:i<xs.length:=(vV O).1;have hm:=mod_lt (x:=x) (m:=5) (by decide);obtain⟨a,ha,U⟩:∃a:Nat,a<=2/\bB (.lst [.int 0,.int 0,.int 0,.int 1,.int 2]) (.int (x % 5))=some (.int (a:Int),false):=by
   have:x % 5=0∨x % 5=1∨x % 5=2∨x % 5=3∨x % 5=4:=by omega
   rcases this with h|h|h|h|h<;>rw[h]
   ·exact⟨0,by decide,rfl⟩
   ·exact⟨0,by decide,rfl⟩
   ·exact⟨0,by decide,rfl⟩
   ·exact⟨1,by decide,rfl⟩
   ·exact⟨2,by decide,rfl⟩
  obtain⟨z,ez,hz⟩:=ge (x / 5);let F:List Ch->Nat->DL.Env:=λcs p=>E cs p (some (.int x,false));have s1:f2 bC (ag 2) (f2 bB (fA c8 (ae (fI 0) (ae (fI 0) (ae (fI 0) (ae (fI 1) (ae (fI 2) ak)))))) (f2 bF (ag 3) (fI 5))) (F cs p)=some (.int ((p+a:Nat):Int),false):=a7 (x:=.int (p:Int)) (y:=.int (a:Int)) (b1:=false) (b2:=false) rfl (a7 (x:=.lst [.int 0,.int 0,.int 0,.int 1,.int 2]) (y:=.int (x % 5)) (b1:=true) (b2:=false) (by simp[sizeLine]) (a7 (x:=.int x) (y:=.int 5) (b1:=false) (b2:=false) rfl rfl (by simp)) U) (by simp);have t:br (f2 sP (ag 2) (fI 8)) (F cs (p+a))=some (decide (p+a<8)):=aB (b:=false) (a7 (x:=.int ((p+a:Nat):Int)) (y:=.int 8) (b1:=false) (b2:=false) rfl rfl (by
   show some (D.bl (decide (((p+a:Nat):Int)<8)),false)=_;congr 3;exact decide_eq_decide.mpr (by omega)))
  have T:∀G,bf 2 (f2 bC (ag 2) (fI 1)) (F G (p+a))=some (.nx (F G (p+a+1))):=λG=>jk (d:=.int ((p+a+1:Nat):Int)) (b:=false) (a7 (x:=.int ((p+a:Nat):Int)) (y:=.int 1) (b1:=false) (b2:=false) rfl rfl (by simp)) rfl;by_cases M:p+a<8
  ·rw[decide_eq_true M]at t;refine⟨F cs p,F (cs++[(p+a,z)]) (p+a+1),rfl,.inl (bt (d:=.int ((p+a:Nat):Int)) (b:=false) s1 rfl (e8 (ρ':=F (cs++[(p+a,z)]) (p+a)) (kz t ?_) (T _))),_,_,_,rfl,by simp;omega,?_,?_,?_,by omega⟩
   ·refine(lC (ds:=cs.map dX) (d:=dX (p+a,z)) (b:=false) rfl (af (ds:=[.int ((p+a:Nat):Int),.str z]) (au (b:=false) rfl (au (af (ds:=[.int (x / 5)]) (au (b:=false) (a7 (x:=.int x) (y:=.int 5) (b1:=false) (b2:=false) rfl rfl (by simp)) rfl) ez) rfl)) (eA _ (by simp))) rfl (bP (by rw[vI];omega))).trans ?_;simp[F,E]
   ·intro c hc;rcases mem_append.mp hc with h|h
    ·exact h2 c h
    ·rw[uU h];exact⟨M,hz⟩
   ·rw[List.pairwise_append];refine⟨h3,List.pairwise_singleton _ _,λc hc b hb=>?_⟩;rw[uU hb];have:=h4 c hc;show c.1<p+a;omega
   ·intro c hc;rcases mem_append.mp hc with h|h
    ·have:=h4 c h;omega
    ·rw[uU h];exact lt_succ_self _
  ·rw[decide_eq_false M]at t;exact⟨F cs p,F cs (p+a+1),rfl,.inl (bt (d:=.int ((p+a:Nat):Int)) (b:=false) s1 rfl (e8 (ρ':=F cs (p+a)) (mw t rfl) (T _))),_,_,_,rfl,by omega,h2,h3,λc hc=>by have:=h4 c hc;omega,by omega⟩)
 rw[vI]at h1;refine⟨cs,av rfl (cP (ds:=[]) rfl rfl (bt (d:=.int 0) (b:=false) rfl rfl (e8 (hW (ds:=xs.map .int) rfl e) (a9 (af (ds:=[.lst (cs.map dX)]) rfl ?_))))),⟨by omega,h2,h3⟩⟩;simp
def Fm:cA ("office" : Str)=false:=by decide +kernel
def Fo:cA ("matters" : Str)=false:=by decide +kernel
def HG:cA ("further" : Str)=false:=by decide +kernel
def IX:cA ("rule" : Str)=false:=by decide +kernel
def yj:cA ("day" : Str)=false:=by decide +kernel
def Cu:cA ("person" : Str)=true:=by decide +kernel
def IY:cA ("since" : Str)=false:=by decide +kernel
def Cv:cA ("by" : Str)=true:=by decide +kernel
def G1:cA ("stretch" : Str)=false:=by decide +kernel
def Et:cA ("whom" : Str)=true:=by decide +kernel
def G2:cA ("pieces" : Str)=false:=by decide +kernel
def Cw:cA ("of" : Str)=false:=by decide +kernel
def bQ:LS->LD->Prop
 |p::ps,d::ds=>aR [.str p,d]=some (.bl true,false)/\bQ ps ds
 |_,_=>True
theorem bQ.all:∀ {ps:LS}{ds:LD},bQ ps ds->∀x∈ps.zip ds,aR [.str x.1,x.2]=some (.bl true,false)
 |[],_,_,x,h=>by simp at h
 |_::_,[],_,x,h=>by simp at h
 |p::ps,d::ds,⟨h1,h2⟩,x,h=>by
  rw[zip_cons_cons]at h;rcases vP h with rfl|h
  ·exact h1
  ·exact bQ.all h2 x h
def Eu:P6.all ib=true:=by decide +kernel
def tS {z:Str}(h:z∈P6):dn [.str z]=some (.bl true,false):=lQ (uS Eu z h)
def fm {d:Int}(h0:0<=d)(h1:d<=9999):aR [.str "day",.int d]=some (.bl true,false):=xW (by decide +kernel) (kJ h0 h1)
def yk {d:Int}(h0:0<=d)(h1:d<=9999):aR [.str "since",.int d]=some (.bl true,false):=xW (by decide +kernel) (kJ h0 h1)
def lX {z:Str}(h:z∈P6):aR [.str "by",.str z]=some (.bl true,false):=oI (by decide +kernel) (by decide +kernel) (tS h)
def dw {z:Str}(h:z∈P6):aR [.str "person",.str z]=some (.bl true,false):=oI (by decide +kernel) (by decide +kernel) (tS h)
def ia {z:Str}(h:ib z=true):aR [.str "office",.str z]=some (.bl true,false):=oI (by decide +kernel) (by decide +kernel) (lQ h)
def dF {ds:LD}(h:ds.all (λd=>aZ d && (!u5 d) && aA 10 d)=true):∀d∈ds,aZ d=true/\u5 d=false/\aA 10 d=true:=λd hd=>by
 have:=uS h d hd;rw[vD,vD]at this;exact⟨this.1.1,by simpa using this.1.2,this.2⟩
def nc {kind:Str}(h:decide (kind=("chosen" : Str))=false)(P:Prop):kind=("chosen" : Str)->P:=λe=>absurd e (of_decide_eq_false h)
def G3:cA ("changes" : Str)=false:=by decide +kernel
def a6:("a" : Str)∈P6:=by decide +kernel
def b6:("b" : Str)∈P6:=by decide +kernel
def Ac:aR [.str "rule",.str "open"]=some (.bl true,false):=aX (by decide +kernel)
def jQ:dc [.tup [.int 0,.non]]=some (.bl true,false):=q0 (by decide) (by decide)
def lY (n:Nat)(G:LS):(G.map D.str).all (aA n)=true:=by
 induction G with
 |nil=>rfl
 |cons a l M=>simp
def vo (n:Nat)(cs:List Ch):(cs.map dX).all (aA (n+1))=true:=by
 rw[all_eq_true];intro d hd;obtain⟨c,_,rfl⟩:=mem_map.mp hd;simp[dX,aA]
section
variable {k:Nat}{day h:Int}{one wb:Str}
def Cy (hk:k<26):DeedG k h ("root" : Str) [.str (off k),.int 1,.int 0,.str "open"] :=
 ⟨⟨[("office" : Str),("matters" : Str),("further" : Str),("rule" : Str)],[],aX (by decide +kernel),rfl,bQ.all ⟨ia (Ct hk),gy (fG (by decide) (by decide)),lR (by decide) (by decide),Ac,trivial⟩,by simp[jO,Fm,Fo,HG,IX],by simp,by simp⟩,by simp,dF (by simp[aA]),.inl ⟨rfl,_,rfl⟩⟩
def Ad (h0:0<=day)(h1:day<=9999)(hd:day<=h)(G:one∈P6):DeedG k h ("named" : Str) [.int day,.str "king",.str one] :=
 ⟨⟨[("day" : Str),("office" : Str),("person" : Str)],[one],aX (by decide +kernel),rfl,bQ.all ⟨fm h0 h1,ia (by decide +kernel),dw G,trivial⟩,by simp[jO,Fm,yj,Cu],by simp,by simpa using G⟩,by simp,dF (by simp[aA]),.inr ⟨by decide +kernel,⟨day,_,rfl,hd,h0,nc (by decide +kernel) _⟩,aX (by decide +kernel)⟩⟩
def ym {s:Int}(h0:0<=day)(h1:day<=9999)(hd:day<=h)(G:one∈P6)(M:wb∈P6)(s1:day<=s)(s2:s<=9999):DeedG k h ("chosen" : Str) [.int day,.str one,.str "king",.str wb,.int s] :=
 ⟨⟨[("day" : Str),("by" : Str),("office" : Str),("person" : Str),("since" : Str)],[one,wb],aX (by decide +kernel),rfl,bQ.all ⟨fm h0 h1,lX G,ia (by decide +kernel),dw M,yk (by omega) s2,trivial⟩,by simp[jO,Fm,yj,Cu,IY,Cv],by simp,by simp[G,M]⟩,by simp,dF (by simp[aA]),.inr ⟨by decide +kernel,⟨day,_,rfl,hd,h0,λ_=>⟨_,_,_,s,rfl,s1⟩⟩,aX (by decide +kernel)⟩⟩
def Ae (h0:0<=day)(h1:day<=9999)(hd:day<=h)(G:one∈P6):DeedG k h ("death" : Str) [.int day,.str one] :=
 ⟨⟨[("day" : Str),("person" : Str)],[one],aX (by decide +kernel),rfl,bQ.all ⟨fm h0 h1,dw G,trivial⟩,by simp[jO,yj,Cu],by simp,by simpa using G⟩,by simp,dF (by simp[aA]),.inr ⟨by decide +kernel,⟨day,_,rfl,hd,h0,nc (by decide +kernel) _⟩,aX (by decide +kernel)⟩⟩
def Cz (h0:0<=day)(h1:day<=9999)(hd:day<=h)(G:one∈P6):DeedG k h ("lost" : Str) [.int day,.str one] :=
 ⟨⟨[("day" : Str),("person" : Str)],[one],aX (by decide +kernel),rfl,bQ.all ⟨fm h0 h1,dw G,trivial⟩,by simp[jO,yj,Cu],by simp,by simpa using G⟩,by simp,dF (by simp[aA]),.inr ⟨by decide +kernel,⟨day,_,rfl,hd,h0,nc (by decide +kernel) _⟩,aX (by decide +kernel)⟩⟩
def Af (h0:0<=day)(h1:day<=9999)(hd:day<=h)(G:one∈P6):DeedG k h ("found" : Str) [.int day,.str one] :=
 ⟨⟨[("day" : Str),("person" : Str)],[one],aX (by decide +kernel),rfl,bQ.all ⟨fm h0 h1,dw G,trivial⟩,by simp[jO,yj,Cu],by simp,by simpa using G⟩,by simp,dF (by simp[aA]),.inr ⟨by decide +kernel,⟨day,_,rfl,hd,h0,nc (by decide +kernel) _⟩,aX (by decide +kernel)⟩⟩
def C0 {n:Int}(h0:0<=day)(h1:day<=9999)(hd:day<=h)(G:one∈P6)(n1:0<=n)(n2:n<=59):DeedG k h ("call" : Str) [.int day,.str one,.int n] :=
 ⟨⟨[("day" : Str),("by" : Str),("of" : Str)],[one],aX (by decide +kernel),rfl,bQ.all ⟨fm h0 h1,lX G,xX n1 n2,trivial⟩,by simp[jO,yj,Cv,Cw],by simp,by simpa using G⟩,by simp,dF (by simp[aA]),.inr ⟨by decide +kernel,⟨day,_,rfl,hd,h0,nc (by decide +kernel) _⟩,aX (by decide +kernel)⟩⟩
def C1 (h0:0<=day)(h1:day<=9999)(hd:day<=h)(G:one∈P6)(M:wb∈P6):DeedG k h ("heir" : Str) [.int day,.str one,.str "king",.str wb] :=
 ⟨⟨[("day" : Str),("by" : Str),("office" : Str),("person" : Str)],[one,wb],aX (by decide +kernel),rfl,bQ.all ⟨fm h0 h1,lX G,ia (by decide +kernel),dw M,trivial⟩,by simp[jO,Fm,yj,Cu,Cv],by simp,by simp[G,M]⟩,by simp,dF (by simp[aA]),.inr ⟨by decide +kernel,⟨day,_,rfl,hd,h0,nc (by decide +kernel) _⟩,aX (by decide +kernel)⟩⟩
def Ag (h0:0<=day)(h1:day<=9999)(hd:day<=h)(G:one∈P6)(M:wb∈P6):DeedG k h ("leave" : Str) [.int day,.str one,.str wb,.int 1,.tup [.int 0,.non],.int 2] :=
 ⟨⟨[("day" : Str),("by" : Str),("person" : Str),("matters" : Str),("stretch" : Str),("further" : Str)],[one,wb],aX (by decide +kernel),rfl,bQ.all ⟨fm h0 h1,lX G,dw M,gy (fG (by decide) (by decide)),iF jQ,lR (by decide) (by decide),trivial⟩,by simp[jO,Fo,HG,yj,Cu,Cv,G1],by simp,by simp[G,M]⟩,by simp,dF (by simp[aA]),.inr ⟨by decide +kernel,⟨day,_,rfl,hd,h0,nc (by decide +kernel) _⟩,aX (by decide +kernel)⟩⟩
def C2 {n:Int}(h0:0<=day)(h1:day<=9999)(hd:day<=h)(G:one∈P6)(n1:0<=n)(n2:n<=59):DeedG k h ("copy" : Str) [.int day,.str one,.int n] :=
 ⟨⟨[("day" : Str),("by" : Str),("of" : Str)],[one],aX (by decide +kernel),rfl,bQ.all ⟨fm h0 h1,lX G,xX n1 n2,trivial⟩,by simp[jO,yj,Cv,Cw],by simp,by simpa using G⟩,by simp,dF (by simp[aA]),.inr ⟨by decide +kernel,⟨day,_,rfl,hd,h0,nc (by decide +kernel) _⟩,aX (by decide +kernel)⟩⟩
def Ah {ps:LS}(h0:0<=day)(h1:day<=9999)(hd:day<=h)(M:one∈P6)(O:1<=ps.length)(T:ps.length<=8)(U:∀p∈ps,ib p=true):DeedG k h ("paper" : Str) [.int day,.str one,.int 1,.tup [.int 0,.non],.non,.tup (ps.map .str)] :=
 ⟨⟨[("day" : Str),("by" : Str),("matters" : Str),("stretch" : Str),("whom" : Str),("pieces" : Str)],[one],aX (by decide +kernel),rfl,bQ.all ⟨fm h0 h1,lX M,gy (fG (by decide) (by decide)),iF (jQ),tQ,vh (rR O T U),trivial⟩,by simp[jO,Fo,yj,Cv,G1,Et,G2],by simp,by simpa using M⟩,by simp,λd G=>by
  simp only[mem_cons,List.mem_nil_iff,or_false]at G;rcases G with rfl|rfl|rfl|rfl|rfl|rfl
  ·exact⟨rfl,rfl,rfl⟩
  ·exact⟨rfl,rfl,rfl⟩
  ·exact⟨rfl,rfl,rfl⟩
  ·exact⟨rfl,rfl,rfl⟩
  ·exact⟨rfl,rfl,rfl⟩
  ·exact⟨by simp[bq],rfl,by simp only[aA];exact lY _ _⟩,.inr ⟨by decide +kernel,⟨day,_,rfl,hd,h0,nc (by decide +kernel) _⟩,aX (by decide +kernel)⟩⟩
def C3 {n:Int}{cs:List Ch}(h0:0<=day)(h1:day<=9999)(hd:day<=h)(M:one∈P6)(n1:0<=n)(n2:n<=59)(hc:ChOk cs):DeedG k h ("like" : Str) [.int day,.str one,.int 1,.tup [.int 0,.non],.non,.int n,.tup (cs.map dX)] :=
 ⟨⟨[("day" : Str),("by" : Str),("matters" : Str),("stretch" : Str),("whom" : Str),("of" : Str),("changes" : Str)],[one],aX (by decide +kernel),rfl,bQ.all ⟨fm h0 h1,lX M,gy (fG (by decide) (by decide)),iF jQ,tQ,xX n1 n2,rW (qG hc),trivial⟩,by simp[jO,Fo,yj,Cv,G1,Et,Cw,G3],by simp,by simpa using M⟩,by simp,λd G=>by
  simp only[mem_cons,List.mem_nil_iff,or_false]at G;rcases G with rfl|rfl|rfl|rfl|rfl|rfl|rfl
  ·exact⟨rfl,rfl,rfl⟩
  ·exact⟨rfl,rfl,rfl⟩
  ·exact⟨rfl,rfl,rfl⟩
  ·exact⟨rfl,rfl,rfl⟩
  ·exact⟨rfl,rfl,rfl⟩
  ·exact⟨rfl,rfl,rfl⟩
  ·exact⟨by simp[qH],rfl,by simp only[aA];exact vo _ _⟩,.inr ⟨by decide +kernel,⟨day,_,rfl,hd,h0,nc (by decide +kernel) _⟩,aX (by decide +kernel)⟩⟩
end
inductive Rw (k:Nat):D->Prop where
 |non {h:Int}{kind:Str}{ao:List D}(g:iG k (row h kind ao)) (n:kind∉[("paper" : Str),("like" : Str),("copy" : Str)]):Rw k (row h kind ao)
 |paper {h day:Int}{ps:List Str}(g:iG k (row h ("paper" : Str) [.int day,.str "a",.int 1,.tup [.int 0,.non],.non,.tup (ps.map .str)])) (l:ps.length<=8):Rw k (row h ("paper" : Str) [.int day,.str "a",.int 1,.tup [.int 0,.non],.non,.tup (ps.map .str)])
 |like {h day:Int}{n:Nat}{cs:List Ch}(g:iG k (row h ("like" : Str) [.int day,.str "a",.int 1,.tup [.int 0,.non],.non,.int (n:Int),.tup (cs.map dX)])) (c:ChOk cs):Rw k (row h ("like" : Str) [.int day,.str "a",.int 1,.tup [.int 0,.non],.non,.int (n:Int),.tup (cs.map dX)])
 |copy {h day:Int}{n:Nat}(g:iG k (row h ("copy" : Str) [.int day,.str "a",.int (n:Int)])):Rw k (row h ("copy" : Str) [.int day,.str "a",.int (n:Int)])
def Rw.g (w:Rw k r):iG k r:=by cases w<;>assumption
def C4 (a b:Int):cL (.int a) (.int b)=some (.bl (decide (a=b)),false):=by simp
def yn (a:Int){m:Int}(h:0<m):bF (.int a) (.int m)=some (.int (a % m),false):=by simp[h]
section
variable {xs:LI}(hl:xs.length=15) {ρ:DL.Env}(h:ρ[0]? = some (some (.lst (xs.map .int),false)))
include hl h
theorem HH (i:Nat)(hi:i<15):ca 0 (i:Int) ρ=some (.int (xs.getD i 0),false):=by
 refine a7 (x:=.lst (xs.map .int)) (y:=.int i) (b1:=false) (b2:=false) (by simp[h]) rfl ?_;have:=tK (xs:=xs) (i:=(i:Int)) (by omega) (by simp;omega);simpa using this
theorem Ai (i:Nat)(hi:i<15){m:Int}(hm:0<m):f2 bF (ca 0 (i:Int)) (fI m) ρ=some (.int (xs.getD i 0 % m),false):=a7 (x:=.int (xs.getD i 0)) (y:=.int m) (b1:=false) (b2:=false) (HH hl h i hi) rfl (by simp[hm])
end
def AW {xs:LI}(hl:xs.length=15)(k:Nat):∃n:Nat,n<=59/\lM [.lst (xs.map .int),.int (k:Int)]=some (.int (n:Int),false):=by
 let E:DL.Env:=[some (.lst (xs.map .int),false),some (.int (k:Int),false)];have T:=mod_lt (x:=xs.getD 2 0) (m:=4) (by decide);have O:=mod_lt (x:=xs.getD 3 0) (m:=60) (by decide);have G:=Ai (ρ:=E) hl rfl 2 (by decide) (m:=4) (by decide);by_cases hz:xs.getD 2 0 % 4=0
 ·refine⟨(xs.getD 3 0 % 60).toNat,by omega,av rfl (cf (aB (b:=false) (a7 (x:=.int (xs.getD 2 0 % 4)) (y:=.int 0) (b1:=false) (b2:=false) G rfl (by rw[C4,decide_eq_true hz]))) (a9 ?_))⟩;rw[show(((xs.getD 3 0 % 60).toNat:Nat):Int)=xs.getD 3 0 % 60 by omega];exact Ai (ρ:=E) hl rfl 3 (by decide) (by decide)
 ·obtain⟨b,hb⟩:∃b:Bool,decide (xs.getD 2 0 % 8=1)=b:=⟨_,rfl⟩;obtain⟨a,ha⟩:∃a:Int,(k:Int)+xs.getD 3 0 % 7 - 5+(if b then 1 else 0)=a:=⟨_,rfl⟩;obtain⟨c,hc⟩:∃c:Int,(if a<59 then a else 59)=c:=⟨_,rfl⟩;have M:c<=59:=by rw[←hc];split<;>omega
  refine⟨(if c > 0 then c else 0).toNat,by split<;>omega,av rfl (ax (aB (b:=false) (a7 (x:=.int (xs.getD 2 0 % 4)) (y:=.int 0) (b1:=false) (b2:=false) G rfl (by rw[C4,decide_eq_false hz]))) (a9 ?_))⟩
  rw[show(((if c > 0 then c else 0).toNat:Nat):Int)=if c > 0 then c else 0 by split<;>omega]
  refine af (ds:=[.int 0,.int c]) (au (b:=false) rfl (au (b:=false) (af (ds:=[.int 59,.int a]) (au (b:=false) rfl (au (d:=.int a) (b:=false) ?_ rfl)) (by simp only[z6,hc])) rfl)) (by simp only[z5]);refine a7 (x:=.int ((k:Int)+xs.getD 3 0 % 7 - 5)) (y:=.int (if b then 1 else 0)) (b1:=false) (b2:=false) (a7 (x:=.int ((k:Int)+xs.getD 3 0 % 7)) (y:=.int 5) (b1:=false) (b2:=false) (a7 (x:=.int (k:Int)) (y:=.int (xs.getD 3 0 % 7)) (b1:=false) (b2:=false) rfl (Ai (ρ:=E) hl rfl 3 (by decide) (by decide)) rfl) rfl rfl) (af (ds:=[.bl b]) (au (d:=.bl b) (b:=false) (a7 (x:=.int (xs.getD 2 0 % 8)) (y:=.int 1) (b1:=false) (b2:=false) (Ai (ρ:=E) hl rfl 2 (by decide) (by decide)) rfl (by rw[C4,hb])) rfl) rfl) ?_;rw[←ha];rfl
def rX {xs:LI}(hl:xs.length=15)(k:Nat)(hk:k<24){day:Int}(h0:0<=day)(h1:day<=9999):∃kind ao,eE [.lst (xs.map .int),.int (k:Int),.int day]=some (.tup (.str kind::ao),false)/\kind∉[("paper" : Str),("like" : Str),("copy" : Str)]/\∀h,day<=h->DeedG k h kind ao:=by
 obtain⟨n,hn,en⟩:=AW hl k;let G:LD:=[.tup [.str "call",.int day,.str "a",.int (n:Int)],.tup [.str "leave",.int day,.str "a",.str "b",.int 1,.tup [.int 0,.non],.int 2],.tup [.str "named",.int day,.str "king",.str "a"]];let M:LD:=[.tup [.str "death",.int day,.str "a"],.tup [.str "lost",.int day,.str "a"],.tup [.str "found",.int day,.str "a"],.tup [.str "heir",.int day,.str "a",.str "king",.str "b"]];let T:LD:=[.tup [.str "chosen",.int day,.str "a",.str "king",.str "b",.int day],.tup [.str "root",.str (off k),.int 1,.int 0,.str "open"]];let E:OB->OB->DL.Env:=λv4 v5=>[some (.lst (xs.map .int),false),some (.int (k:Int),false),some (.int day,false),some (.int (n:Int),false),v4,v5];have Lo:=mod_lt (x:=xs.getD 4 0) (m:=10) (by decide);obtain⟨w,hw⟩:∃w:Int,xs.getD 4 0 % 10 % 9=w:=⟨_,rfl⟩;have U:0<=w/\w<9:=by omega
 have eo:f2 bC (fS "k") (f2 bB (fS "abcdefghijklmnopqrstuvwxyz") (f2 bF (ag 1) (fI 26))) (E (some (.lst (G++M),true)) none)=some (.str (off k),false):=by
  have l1:("k" : Str).length=1:=by decide +kernel
  have z1:("k" : Str).length+(⟨#[("abcdefghijklmnopqrstuvwxyz" : Str).cps.toList.getD (k % 26) 0]⟩:Str).length<=sizeLine:=db (by rw[l1,xR];decide);refine a7 (x:=.str "k") (y:=.str ⟨#[("abcdefghijklmnopqrstuvwxyz" : Str).cps.toList.getD (k % 26) 0]⟩) (b1:=false) (b2:=false) rfl (a7 (x:=.str cI) (y:=.int ((k % 26:Nat):Int)) (b1:=false) (b2:=false) rfl (a7 (x:=.int (k:Int)) (y:=.int 26) (b1:=false) (b2:=false) rfl rfl (by simp)) ?_) ?_
  ·have:=DL.nL (z:=cI) (i:=((k % 26:Nat):Int)) (by omega) (by rw[eF];omega) (by rw[yf,eF];omega);rw[this,toNat_natCast];rfl
  ·simp only[bC,if_pos z1];rfl
 have O:∀(kind:Str)(ao:LD),(G++M++T).getD w.toNat .non=.tup (.str kind::ao)->eE [.lst (xs.map .int),.int (k:Int),.int day]=some (.tup (.str kind::ao),false):=λkind ao hg=>by
  refine av rfl (bt (d:=.int (n:Int)) (b:=false) (af (ds:=[.lst (xs.map .int),.int (k:Int)]) rfl en) rfl (cP (ds:=G) (by simp[sizeLine,G]) (by simp[G]) (cP (ds:=G++M) ?_ (by simp[G,M]) (bt (d:=.str (off k)) (b:=false) eo rfl (cP (ds:=G++M++T) ?_ (by simp[G,M,T]) (a9 ?_))))))
  ·exact a7 (x:=.lst G) (y:=.lst M) (b1:=false) (b2:=true) rfl (by simp[sizeLine,M]) (by simp[sizeLine,G,M])
  ·exact a7 (x:=.lst (G++M)) (y:=.lst T) (b1:=false) (b2:=true) rfl (by simp[sizeLine,T]) (by simp[sizeLine,G,M,T])
  ·refine a7 (x:=.lst (G++M++T)) (y:=.int w) (b1:=false) (b2:=false) rfl (a7 (x:=.int (xs.getD 4 0 % 10)) (y:=.int 9) (b1:=false) (b2:=false) (Ai hl rfl 4 (by decide) (by decide)) rfl (by rw[yn _ (by decide),hw])) ?_;rw[xQ U.1 (by simp[G,M,T];omega),hg]
 have:w=0∨w=1∨w=2∨w=3∨w=4∨w=5∨w=6∨w=7∨w=8:=by omega
 rcases this with rfl|rfl|rfl|rfl|rfl|rfl|rfl|rfl|rfl
 ·exact⟨_,_,O _ _ rfl,by decide +kernel,λh hd=>C0 h0 h1 hd a6 (by omega) (by omega)⟩
 ·exact⟨_,_,O _ _ rfl,by decide +kernel,λh hd=>Ag h0 h1 hd a6 b6⟩
 ·exact⟨_,_,O _ _ rfl,by decide +kernel,λh hd=>Ad h0 h1 hd a6⟩
 ·exact⟨_,_,O _ _ rfl,by decide +kernel,λh hd=>Ae h0 h1 hd a6⟩
 ·exact⟨_,_,O _ _ rfl,by decide +kernel,λh hd=>Cz h0 h1 hd a6⟩
 ·exact⟨_,_,O _ _ rfl,by decide +kernel,λh hd=>Af h0 h1 hd a6⟩
 ·exact⟨_,_,O _ _ rfl,by decide +kernel,λh hd=>C1 h0 h1 hd a6 b6⟩
 ·exact⟨_,_,O _ _ rfl,by decide +kernel,λh hd=>ym h0 h1 hd a6 b6 (le_refl _) h1⟩
 ·exact⟨_,_,O _ _ rfl,by decide +kernel,λh hd=>Cy (by omega)⟩
def Ev (a:Int){m:Int}(h:0<m)(h2:m<1073741824):iP (.int a) (.int m)=some (.int (a / m),false):=by simp[h,h2]
def Ew {xs:LI}(hl:xs.length=15)(b:Nat)(hb:b<=15):dI (xs.map .int) (some 6) (some (b:Int))=((xs.drop 6).take (b - 6)).map .int:=by
 unfold dI;rw[eV (by omega),eV (by omega),vI,hl,←map_drop,←map_take,toNat_natCast,Nat.min_eq_left hb];rfl
def tT {k:Nat}{h:Int}{kind:Str}{ao:LD}(h0:0<=h)(h1:h<=9999)(g:DeedG k h kind ao):iG k (row h kind ao):=⟨h,kind,ao,rfl,h0,h1,g⟩
def C5 {xs:LI}(hl:xs.length=15)(hx:∀x∈xs,0<=x)(k:Nat)(hk:k<24):∃r,ju [.lst (xs.map .int),.int (k:Int)]=some (r,false)/\Rw k r:=by
 have m0:=mod_lt (x:=xs.getD 0 0) (m:=10) (by decide);have m1:=mod_lt (x:=xs.getD 1 0) (m:=8) (by decide);have ma:=mod_lt (x:=xs.getD 0 0 / 10) (m:=4) (by decide);have mb:=mod_lt (x:=xs.getD 0 0 / 40) (m:=2) (by decide);have m4:=mod_lt (x:=xs.getD 4 0) (m:=8) (by decide);have m5:=mod_lt (x:=xs.getD 4 0) (m:=5) (by decide);obtain⟨day,Ho⟩:∃d,xs.getD 0 0 % 10=d:=⟨_,rfl⟩;obtain⟨w,hw⟩:∃w,xs.getD 1 0 % 8=w:=⟨_,rfl⟩;obtain⟨t,Lp,Lq,et⟩:∃t:Int,0<=t/\t<=3/\bB (.lst [.int 0,.int (xs.getD 0 0 / 10 % 4)]) (.int (xs.getD 0 0 / 40 % 2))=some (.int t,false):=by
  have:xs.getD 0 0 / 40 % 2=0∨xs.getD 0 0 / 40 % 2=1:=by omega
  rcases this with h|h<;>rw[h]
  ·exact⟨0,by decide,by decide,rfl⟩
  ·exact⟨xs.getD 0 0 / 10 % 4,ma.1,by omega,rfl⟩
 obtain⟨n,hn,en⟩:=AW hl k;have d0:0<=day:=by omega
 have d1:day<=9999:=by omega
 obtain⟨a,ha⟩:∃a,day+t=a:=⟨_,rfl⟩;have a0:0<=a:=by omega
 have a1:a<=9999:=by omega
 have M:day<=a:=by omega
 let E:OB->OB->DL.Env:=λv5 v6=>[some (.lst (xs.map .int),false),some (.int (k:Int),false),some (.int day,false),some (.int w,false),some (.int a,false),v5,v6];have pre:∀ {T:FS}{res:Option Res},T (E none none)=res->aC (bf 2 (f2 bF (ca 0 0) (fI 10))) (aC (bf 3 (f2 bF (ca 0 1) (fI 8))) (aC (bf 4 (f2 bC (ag 2) (f2 bB (fA c8 (ae (fI 0) (ae (f2 bF (f2 iP (ca 0 0) (fI 10)) (fI 4)) ak))) (f2 bF (f2 iP (ca 0 0) (fI 40)) (fI 2))))) T)) [some (.lst (xs.map .int),false),some (.int (k:Int),false),none,none,none,none,none]=res:=λhT=>by
  refine bt (d:=.int day) (b:=false) (Ho ▸ Ai hl rfl 0 (by decide) (by decide)) rfl (bt (d:=.int w) (b:=false) (hw ▸ Ai hl rfl 1 (by decide) (by decide)) rfl (bt (d:=.int a) (b:=false) ?_ rfl hT));have dv:∀ {ρ:DL.Env}(m:Int),0<m/\m<1073741824->ρ[0]? = some (some (.lst (xs.map .int),false))->f2 iP (ca 0 0) (fI m) ρ=some (.int (xs.getD 0 0 / m),false):=λ{ρ} m hm h=>a7 (x:=.int (xs.getD 0 0)) (y:=.int m) (b1:=false) (b2:=false) (HH hl h 0 (by decide)) rfl (Ev _ hm.1 hm.2);refine a7 (x:=.int day) (y:=.int t) (b1:=false) (b2:=false) rfl (a7 (x:=.lst [.int 0,.int (xs.getD 0 0 / 10 % 4)]) (y:=.int (xs.getD 0 0 / 40 % 2)) (b1:=true) (b2:=false) (af (ds:=[.int 0,.int (xs.getD 0 0 / 10 % 4)]) (au (b:=false) rfl (au (b:=false) (a7 (x:=.int (xs.getD 0 0 / 10)) (y:=.int 4) (b1:=false) (b2:=false) (dv 10 (by decide) rfl) rfl (yn _ (by decide))) rfl)) (by simp[sizeLine])) (a7 (x:=.int (xs.getD 0 0 / 40)) (y:=.int 2) (b1:=false) (b2:=false) (dv 40 (by decide) rfl) rfl (yn _ (by decide))) et) ?_;rw[←ha];rfl
 by_cases w0:w=0
 ·obtain⟨kind,ao,e,nk,g⟩:=rX hl k hk d0 d1;exact⟨_,av rfl (pre (cf (aB (b:=false) (a7 (x:=.int w) (y:=.int 0) (b1:=false) (b2:=false) rfl rfl (by rw[C4,decide_eq_true w0]))) (a9 (af (ds:=[.int a,.tup (.str kind::ao)]) (au (b:=false) rfl (au (af (ds:=[.lst (xs.map .int),.int (k:Int),.int day]) rfl e) rfl)) (eA _ (by simp)))))),.non (tT a0 a1 (g a M)) nk⟩
 ·have t0:br (f2 cL (ag 3) (fI 0)) (E none none)=some false:=aB (b:=false) (a7 (x:=.int w) (y:=.int 0) (b1:=false) (b2:=false) rfl rfl (by rw[C4,decide_eq_false w0]));have tl:∀(m:Int),br (f2 sP (ag 3) (fI m)) (E none none)=some (decide (w<m)):=λm=>aB (b:=false) (a7 (x:=.int w) (y:=.int m) (b1:=false) (b2:=false) rfl rfl rfl);by_cases w4:w<4
  ·have t4:=tl 4;rw[decide_eq_true w4]at t4;obtain⟨j,hj⟩:∃j:Nat,xs.getD 4 0 % 8=j:=⟨(xs.getD 4 0 % 8).toNat,by omega⟩;obtain⟨ys,G⟩:∃ys,(xs.drop 6).take (7+j - 6)=ys:=⟨_,rfl⟩;have O:ys.length=1+j:=by rw[←G,length_take,length_drop,hl];omega
   have sl:jz (ag 0) (bo (fI 6)) (bo (f2 bC (fI 7) (f2 bF (ca 0 4) (fI 8)))) (E none none)=some (.lst (ys.map .int),true):=by
    have hb:f2 bC (fI 7) (f2 bF (ca 0 4) (fI 8)) (E none none)=some (.int ((7+j:Nat):Int),false):=a7 (x:=.int 7) (y:=.int (xs.getD 4 0 % 8)) (b1:=false) (b2:=false) rfl (Ai (ρ:=E none none) hl rfl 4 (by decide) (by decide)) (by rw[hj];show some (D.int (7+(j:Int)),false)=_;congr 3);have ho:bo (f2 bC (fI 7) (f2 bF (ca 0 4) (fI 8))) (E none none)=some (some ((7+j:Nat):Int)):=by unfold bo;rw[hb]
    unfold jz;rw[show ag 0 (E none none)=some (.lst (xs.map .int),false)from rfl,vJ,show bo (fI 6) (E none none)=some (some 6)from rfl,vJ,ho,vJ];show some (D.lst (dI (xs.map .int) (some 6) (some ((7+j:Nat):Int))),true)=_;rw[Ew hl _ (by omega),G]
   have hc:=jl (fi:=ft (jz (ag 0) (bo (fI 6)) (bo (f2 bC (fI 7) (f2 bF (ca 0 4) (fI 8)))))) (nT:=1) (cap:=[]) (tg:=eI 0) (fe:=fA gb (fV 0 ak)) (ρ:=E none none) ys .int (λx=>.str (ge x).choose) (by show(jz _ _ _ _).bind _=_;rw[sl];rfl) (by omega) λx _=>⟨[some (.int x,false)],rfl,false,af (ds:=[.int x]) rfl (ge x).choose_spec.1⟩;obtain⟨ps,U⟩:∃ps:LS,ys.map (λx=>(ge x).choose)=ps:=⟨_,rfl⟩;have y7:ps.length=1+j:=by rw[←U,vI,O]
   have KJ:∀p∈ps,ib p=true:=λp hp=>by rw[←U]at hp;obtain⟨x,_,rfl⟩:=mem_map.mp hp;exact(ge x).choose_spec.2
   have KL:ys.map (λx=>D.str (ge x).choose)=ps.map .str:=by rw[←U,map_map];rfl
   rw[KL]at hc;refine⟨_,av rfl (pre (ax t0 (oG (kz t4 (bt (d:=.tup (ps.map .str)) (b:=false) (af (ds:=[.lst (ps.map .str)]) (au (b:=true) hc rfl) (by simp)) (by simp[bq]) (a9 (af (ds:=[.int a,.tup [.str "paper",.int day,.str "a",.int 1,.tup [.int 0,.non],.non,.tup (ps.map .str)]]) (au (b:=false) rfl (au (b:=false) (af (ds:=[.str "paper",.int day,.str "a",.int 1,.tup [.int 0,.non],.non,.tup (ps.map .str)]) rfl (eA _ (by simp))) rfl)) (eA _ (by simp))))))))),.paper (tT a0 a1 (Ah d0 d1 M a6 (by omega) (by omega) KJ)) (by omega)⟩
  ·have t4:=tl 4;rw[decide_eq_false w4]at t4;by_cases w7:w<7
   ·have t7:=tl 7;rw[decide_eq_true w7]at t7;obtain⟨j,hj⟩:∃j:Nat,xs.getD 4 0 % 5=j:=⟨(xs.getD 4 0 % 5).toNat,by omega⟩;obtain⟨ys,G⟩:∃ys,(xs.drop 6).take (6+j - 6)=ys:=⟨_,rfl⟩;have O:ys.length<=8:=by rw[←G,length_take];omega
    have sl:jz (ag 0) (bo (fI 6)) (bo (f2 bC (fI 6) (f2 bF (ca 0 4) (fI 5)))) (E none none)=some (.lst (ys.map .int),true):=by
     have hb:f2 bC (fI 6) (f2 bF (ca 0 4) (fI 5)) (E none none)=some (.int ((6+j:Nat):Int),false):=a7 (x:=.int 6) (y:=.int (xs.getD 4 0 % 5)) (b1:=false) (b2:=false) rfl (Ai (ρ:=E none none) hl rfl 4 (by decide) (by decide)) (by rw[hj];show some (D.int (6+(j:Int)),false)=_;congr 3);have ho:bo (f2 bC (fI 6) (f2 bF (ca 0 4) (fI 5))) (E none none)=some (some ((6+j:Nat):Int)):=by unfold bo;rw[hb]
     unfold jz;rw[show ag 0 (E none none)=some (.lst (xs.map .int),false)from rfl,vJ,show bo (fI 6) (E none none)=some (some 6)from rfl,vJ,ho,vJ];show some (D.lst (dI (xs.map .int) (some 6) (some ((6+j:Nat):Int))),true)=_;rw[Ew hl _ (by omega),G]
    obtain⟨cs,ec,hc⟩:=qI ys O λx h=>hx x (List.mem_of_mem_drop (List.mem_of_mem_take (by rw[G];exact h)));refine⟨_,av rfl (pre (ax t0 (ax t4 (oG (kz t7 (bt (d:=.tup (cs.map dX)) (b:=false) (af (ds:=[.lst (ys.map .int)]) (au (b:=true) sl rfl) ec) (by simp[qH]) (a9 (af (ds:=[.int a,.tup [.str "like",.int day,.str "a",.int 1,.tup [.int 0,.non],.non,.int (n:Int),.tup (cs.map dX)]]) (au (b:=false) rfl (au (b:=false) (af (ds:=[.str "like",.int day,.str "a",.int 1,.tup [.int 0,.non],.non,.int (n:Int),.tup (cs.map dX)]) (au (b:=false) rfl (au (b:=false) rfl (au (b:=false) rfl (au (b:=false) rfl (au (d:=.tup [.int 0,.non]) (b:=false) (by simp[sizeLine]) (au (b:=false) rfl (au (af (ds:=[.lst (xs.map .int),.int (k:Int)]) rfl en) (au (b:=false) rfl rfl)))))))) (eA _ (by simp))) rfl)) (eA _ (by simp)))))))))),.like (tT a0 a1 (C3 d0 d1 M a6 (by omega) (by omega) hc)) hc⟩
   ·have t7:=tl 7;rw[decide_eq_false w7]at t7;exact⟨_,av rfl (pre (ax t0 (ax t4 (ax t7 (a9 (af (ds:=[.int a,.tup [.str "copy",.int day,.str "a",.int (n:Int)]]) (au (b:=false) rfl (au (b:=false) (af (ds:=[.str "copy",.int day,.str "a",.int (n:Int)]) (au (b:=false) rfl (au (b:=false) rfl (au (b:=false) rfl (au (af (ds:=[.lst (xs.map .int),.int (k:Int)]) rfl en) rfl)))) (eA _ (by simp))) rfl)) (eA _ (by simp)))))))),.copy (tT a0 a1 (C2 d0 d1 M a6 (by omega) (by omega)))⟩
noncomputable def de (ps:LS)(c:Ch):Option LS:=if c.1<=ps.length then some (ps.take c.1++c.2::ps.drop (c.1+1))else none
def gF:LS->List Ch->Option LS
 |ps,[]=>some ps
 |ps,c::cs=>(de ps c).bind λq=>gF q cs
def gZ (h:de ps c=some q):q.length<=ps.length+1:=by
 unfold de at h;split at h
 ·cases h
  rw[vA,vE,length_take,length_drop];omega
 ·cases h
theorem jR:∀ {cs:List Ch}{ps q:LS},gF ps cs=some q->q.length<=ps.length+cs.length
 |[],_,_,h=>by cases h;exact vT _
 |c::cs,ps,q,h=>by
  obtain⟨p,h1,h2⟩:=oX h;have:=gZ h1;have:=jR h2;rw[vE];omega
def G4 (l:LD)(a:Nat):dI l none (some (a:Int))=l.take a:=by
 unfold dI;rw[eV (by omega)];show(l.drop 0).take (min (a:Int).toNat l.length - 0)=_;rw[List.drop_zero,Nat.sub_zero,toNat_natCast,←List.take_eq_take_min]
def Ex (l:LD)(a:Nat):dI l (some (a:Int)) none=l.drop a:=by
 unfold dI;rw[eV (by omega),toNat_natCast];show(l.drop (min a l.length)).take (l.length - min a l.length)=_;rw[List.take_of_length_le (by rw[length_drop];omega)];by_cases h:a<=l.length
 ·rw[Nat.min_eq_left h]
 ·rw[Nat.min_eq_right (by omega),List.drop_length,drop_eq_nil_of_le (by omega)]
def rY (ps:LS)(O:ps.length<=900)(a:Nat)(z:Str):jM [.tup (ps.map .str),.int (a:Int),.str z]=some (.tup ((ps.take a++z::ps.drop (a+1)).map .str),false):=by
 have G:jz (ag 0) dg (bo (ag 1)) [some (.tup (ps.map .str),false),some (.int (a:Int),false),some (.str z,false)]=some (.tup ((ps.take a).map .str),false):=by
  show some (D.tup (dI (ps.map .str) none (some (a:Int))),false)=_;rw[G4,map_take]
 have M:jz (ag 0) (bo (f2 bC (ag 1) (fI 1))) dg [some (.tup (ps.map .str),false),some (.int (a:Int),false),some (.str z,false)]=some (.tup ((ps.drop (a+1)).map .str),false):=by
  show some (D.tup (dI (ps.map .str) (some ((a+1:Nat):Int)) none),false)=_;rw[Ex,map_drop]
 refine av rfl (a9 (a7 (x:=.tup ((ps.take a++[z]).map .str)) (y:=.tup ((ps.drop (a+1)).map .str)) (b1:=false) (b2:=false) (a7 (x:=.tup ((ps.take a).map .str)) (y:=.tup [.str z]) (b1:=false) (b2:=false) G (af (ds:=[.str z]) rfl (eA _ (by simp))) ?_) M ?_))
 ·show(if((ps.take a).map D.str).length+[D.str z].length<=sizeLine then some (D.tup ((ps.take a).map D.str++[.str z]),false)else none)=_;rw[if_pos (db (by simp;omega)),map_append];rfl
 ·show(if((ps.take a++[z]).map D.str).length+((ps.drop (a+1)).map D.str).length<=sizeLine then some (D.tup ((ps.take a++[z]).map D.str++(ps.drop (a+1)).map D.str),false)else none)=_;rw[if_pos (db (by simp;omega)),←map_append,append_assoc];rfl
def C6 {ρ:DL.Env}{i n:Nat}{ds:LD}{G M:FE}{d:D}{b b':Bool}(e:ρ[i]? = some (some (.lst ds,true)))(O:M ρ=some (d,b))(T:G ρ=some (.int n,b'))(hn:n<ds.length)(hf:aZ d=true):xh i G M ρ=some (.nx (ρ.set i (some (.lst (ds.set n d),true)))):=by
 have hx:uo ds.length (n:Int)=some n:=by
  unfold uo;rw[if_pos (by omega)];simp[hn]
 simp only[xh,e,O,T,vJ,hx,if_pos hf]
noncomputable def Ey:Option LS->D×Bool
 |some q=>(.lst (q.map .str),true)
 |none=>(.non,false)
def Aj (ps:LS)(hp:ps.length<=500)(cs:List Ch)(hc:cs.length<=100):gx [.lst (ps.map .str),.tup (cs.map dX)]=some (Ey (gF ps cs)):=by
 let E:LS->OB->OB->DL.Env:=λq M O=>[some (.lst (ps.map .str),false),some (.tup (cs.map dX),false),some (.lst (q.map .str),true),M,O];have key:∀(G:List Ch)(q:LS)(M O:OB),q.length+G.length<=700->match gF q G with
   |some r=>∃w3 w4,bL (mG [3,4]) bM (G.map dX) (E q M O)=some (.nx (E r w3 w4))
   |none=>bL (mG [3,4]) bM (G.map dX) (E q M O)=some (.rt .non false):=by
  intro G;induction G with
  |nil=>intro q M O _;exact⟨M,O,rfl⟩
  |cons c G ih=>
   intro q M O hl;rw[vE]at hl;let F:LS->DL.Env:=λq=>E q (some (.int (c.1:Int),false)) (some (.str c.2,false));have T:fA bU (fV 2 ak) (F q)=some (.int (q.length:Int),false):=af (ds:=[.lst (q.map .str)]) rfl (by simp);have t1:br (f2 cL (ag 3) (fA bU (fV 2 ak))) (F q)=some (decide ((c.1:Int)=q.length)):=aB (b:=false) (a7 (x:=.int (c.1:Int)) (y:=.int (q.length:Int)) (b1:=false) (b2:=false) rfl T (C4 _ _));have t2:br (f2 sP (ag 3) (fA bU (fV 2 ak))) (F q)=some (decide ((c.1:Int)<q.length)):=aB (b:=false) (a7 (x:=.int (c.1:Int)) (y:=.int (q.length:Int)) (b1:=false) (b2:=false) rfl T rfl);have step:(de q c=none->bM (F q)=some (.rt .non false))/\∀U,de q c=some U->bM (F q)=some (.nx (F U)):=by
    unfold de;by_cases h1:c.1=q.length
    ·rw[decide_eq_true (by omega)]at t1;rw[if_pos (by omega)];refine⟨λh=>(by cases h),λU h=>?_⟩;cases h
     rw[h1,List.take_length,drop_eq_nil_of_le (by omega)];refine(kz t1 (lC (ds:=q.map .str) (d:=.str c.2) (b:=false) rfl rfl rfl (bP (by rw[vI];omega)))).trans ?_;simp[F,E]
    ·rw[decide_eq_false (by omega)]at t1;by_cases h2:c.1<q.length
     ·rw[decide_eq_true (by omega)]at t2;rw[if_pos (by omega)];refine⟨λh=>(by cases h),λU h=>?_⟩;cases h
      refine(mw t1 (kz t2 (C6 (n:=c.1) (ds:=q.map .str) (d:=.str c.2) (b:=false) (b':=false) rfl rfl rfl (by rw[vI];exact h2) rfl))).trans ?_;have e:(q.map D.str).set c.1 (.str c.2)=(q.take c.1++c.2::q.drop (c.1+1)).map .str:=by
       rw[←List.map_set,List.set_eq_take_append_cons_drop,if_pos h2]
      rw[e];rfl
     ·rw[decide_eq_false (by omega)]at t2;rw[if_neg (by omega)];exact⟨λ_=>mw t1 (mw t2 (a9 rfl)),λU h=>by cases h⟩
   have ef:bL (mG [3,4]) bM ((c::G).map dX) (E q M O)=match bM (F q) with
     |some (.nx ρ')=>bL (mG [3,4]) bM (G.map dX) ρ'
     |some (.ct ρ')=>bL (mG [3,4]) bM (G.map dX) ρ'
     |some (.bk ρ')=>some (.nx ρ')
     |r=>r:=by
    rw[uZ,fQ];show((some (F q)).bind _)=_;rw[vJ]
   unfold gF;cases hs:de q c with
   |none=>
    show bL _ _ _ _=_;rw[ef,step.1 hs]
   |some U=>
    rw[vJ,ef,step.2 U hs];have:=gZ hs;exact ih U _ _ (by omega)
 have k:=key cs ps none none (by omega);have e0:fA cX (fV 0 ak) [some (.lst (ps.map .str),false),some (.tup (cs.map dX),false),none,none,none]=some (.lst (ps.map .str),true):=af (ds:=[.lst (ps.map .str)]) rfl (by simp);cases hp:gF ps cs with
 |none=>
  rw[hp]at k;refine av rfl (cP (ds:=ps.map .str) e0 (bq ps) (oG ?_));show gk _ _ _ (E ps none none)=_;unfold gk;exact k
 |some q=>
  rw[hp]at k;obtain⟨w3,w4,k⟩:=k;exact av rfl (cP (ds:=ps.map .str) e0 (bq ps) (e8 (hW (ds:=cs.map dX) rfl k) (kH rfl)))
theorem yo (ai:LD)(G:D)(n:Nat):∀(cs:List Ch)(q:LS)(M O:OB),q.length+cs.length<=700->match gF q cs with
  |some r=>∃U w5,bL (mG [4,5]) aY (cs.map dX) [some (.tup ai,false),some (G,false),some (.tup (q.map .str),false),some (.int (n:Int),false),M,O]=some (.nx [some (.tup ai,false),some (G,false),some (.tup (r.map .str),false),some (.int (n:Int),false),U,w5])
  |none=>bL (mG [4,5]) aY (cs.map dX) [some (.tup ai,false),some (G,false),some (.tup (q.map .str),false),some (.int (n:Int),false),M,O]=some (.rt (.tup [.str "beyond",.int (n:Int)]) false)
 |[],q,M,O,_=>⟨M,O,rfl⟩
 |c::cs,q,M,O,hl=>by
  rw[vE]at hl;let F:LS->DL.Env:=λq=>[some (.tup ai,false),some (G,false),some (.tup (q.map .str),false),some (.int (n:Int),false),some (.int (c.1:Int),false),some (.str c.2,false)];have t:br (f2 Db (ag 4) (fA bU (fV 2 ak))) (F q)=some (decide ((q.length:Int)<c.1)):=aB (b:=false) (a7 (x:=.int (c.1:Int)) (y:=.int (q.length:Int)) (b1:=false) (b2:=false) rfl (af (ds:=[.tup (q.map .str)]) rfl (by simp)) rfl);have T:bL (mG [4,5]) aY ((c::cs).map dX) [some (.tup ai,false),some (G,false),some (.tup (q.map .str),false),some (.int (n:Int),false),M,O]=match aY (F q) with
    |some (.nx ρ')=>bL (mG [4,5]) aY (cs.map dX) ρ'
    |some (.ct ρ')=>bL (mG [4,5]) aY (cs.map dX) ρ'
    |some (.bk ρ')=>some (.nx ρ')
    |r=>r:=by
   rw[uZ,fQ];show((some (F q)).bind _)=_;rw[vJ]
  unfold gF;by_cases h:c.1<=q.length
  ·rw[decide_eq_false (by omega)]at t;have hs:de q c=some (q.take c.1++c.2::q.drop (c.1+1)):=by unfold de;rw[if_pos h]
   have:=gZ hs;have e:aY (F q)=some (.nx (F (q.take c.1++c.2::q.drop (c.1+1)))):=ax t (jk (d:=.tup ((q.take c.1++c.2::q.drop (c.1+1)).map .str)) (b:=false) (af (ds:=[.tup (q.map .str),.int (c.1:Int),.str c.2]) rfl (rY q (by omega) c.1 c.2)) (show bA _=true from bq _));rw[hs,vJ,T,e];exact yo ai G n cs _ _ _ (by omega)
  ·rw[decide_eq_true (by omega)]at t;have hs:de q c=none:=by unfold de;rw[if_neg h]
   have e:aY (F q)=some (.rt (.tup [.str "beyond",.int (n:Int)]) false):=cf t (a9 (af (ds:=[.str "beyond",.int (n:Int)]) rfl (eA _ (by simp))));rw[hs];show bL _ _ _ _=_;rw[T,e]
noncomputable def tU:D->List Ch
 |.tup ds=>ds.filterMap fun
  |.tup [.int a,.str z]=>some (a.toNat,z)
  |_=>none
 |_=>[]
def vp (cs:List Ch):tU (.tup (cs.map dX))=cs:=by
 show List.filterMap _ (cs.map dX)=cs;rw[List.filterMap_map];induction cs with
 |nil=>rfl
 |cons c cs G=>rw[filterMap_cons];simp only[Function.comp,dX,toNat_natCast];rw[G]
def oJ:D->Option (List Ch)
 |.tup [_,.tup (.str k::ao)]=>if k=("like" : Str)then some (tU (ao.getD 6 .non))else none
 |_=>none
def vO (ai:LD):LS->LN->LS ⊕ Nat
 |ps,[]=>.inl ps
 |ps,n::l=>match (ai[n]?).bind oJ with
  |none=>vO ai ps l
  |some cs=>match gF ps cs with
   |some q=>vO ai q l
   |none=>.inr n
def oK {ρ:DL.Env}{i:Nat}{d:D}(h:ρ[i]? = some (some (d,false))):unown1 ρ i=ρ:=by unfold unown1;rw[h]
def qJ:jH bv (.str "like") (.str "changes")=some (.int ((6:Nat):Int),false):=aX (by decide +kernel)
def rZ:jH bv (.str "paper") (.str "pieces")=some (.int ((5:Nat):Int),false):=aX (by decide +kernel)
def g0 (h:Int)(kind:Str)(ao:LD):oJ (row h kind ao)=if kind=("like" : Str)then some (tU (ao.getD 6 .non))else none:=rfl
def tV (w:Rw k r):(oJ r=none/\decide (kindOf r=("like" : Str))=false)∨∃(h:Int)(cs:List Ch)(ao:LD),r=row h ("like" : Str) ao/\oJ r=some cs/\ao[6]? = some (.tup (cs.map dX))/\ChOk cs:=by
 cases w with
 |@non h kind ao g n=>
  have hk:kind≠("like" : Str):=λe=>n (by rw[e];decide +kernel);exact .inl ⟨(g0 h kind ao).trans (if_neg hk),decide_eq_false hk⟩
 |paper=>
  have hk:("paper" : Str)≠("like" : Str):=by decide +kernel
  exact .inl ⟨(g0 _ _ _).trans (if_neg hk),decide_eq_false hk⟩
 |copy=>
  have hk:("copy" : Str)≠("like" : Str):=by decide +kernel
  exact .inl ⟨(g0 _ _ _).trans (if_neg hk),decide_eq_false hk⟩
 |@like h day n cs g c=>
  refine .inr ⟨h,cs,_,rfl,(g0 _ _ _).trans ((if_pos rfl).trans ?_),rfl,c⟩;show some (tU (.tup (cs.map dX)))=_;rw[vp]
section
variable {ai:LD}(hw:∀j r,ai[j]? = some r->Rw j r)
include hw
theorem G5 (G:D):∀(l:LN)(q:LS)(U M O:OB),(∀n∈l,n<ai.length)->q.length+8*l.length<=500->match vO ai q l with
  |.inl r=>∃w3 w4 w5,bL (eI 3) aQ (l.map λ(n:Nat)=>.int (n:Int)) [some (.tup ai,false),some (G,false),some (.tup (q.map .str),false),U,M,O]=some (.nx [some (.tup ai,false),some (G,false),some (.tup (r.map .str),false),w3,w4,w5])
  |.inr n=>bL (eI 3) aQ (l.map λ(n:Nat)=>.int (n:Int)) [some (.tup ai,false),some (G,false),some (.tup (q.map .str),false),U,M,O]=some (.rt (.tup [.str "beyond",.int (n:Int)]) false)
 |[],q,U,M,O,_,_=>⟨U,M,O,rfl⟩
 |n::l,q,U,M,O,hn,hl=>by
  rw[vE]at hl;obtain⟨r,hr⟩:∃r,ai[n]? = some r:=⟨_,vU (hn n mX)⟩;have wr:=hw n r hr;let F:DL.Env:=[some (.tup ai,false),some (G,false),some (.tup (q.map .str),false),some (.int (n:Int),false),M,O];have er:f2 bB (ag 0) (ag 3) F=some (r,false):=a7 (x:=.tup ai) (y:=.int (n:Int)) (b1:=false) (b2:=false) rfl rfl (by simp[lW hr]);have t:br (f2 vL (fA be (ae (f2 bB (ag 0) (ag 3)) ak)) (fS "like")) F=some (!decide (kindOf r=("like" : Str))):=aB (b:=false) (a7 (x:=.str (kindOf r)) (y:=.str "like") (b1:=false) (b2:=false) (af (ds:=[r]) (au er rfl) (gz wr.g)) rfl (by simp));have ef:bL (eI 3) aQ ((n::l).map λ(n:Nat)=>.int (n:Int)) [some (.tup ai,false),some (G,false),some (.tup (q.map .str),false),U,M,O]=match aQ F with
    |some (.nx ρ')=>bL (eI 3) aQ (l.map λ(n:Nat)=>.int (n:Int)) ρ'
    |some (.ct ρ')=>bL (eI 3) aQ (l.map λ(n:Nat)=>.int (n:Int)) ρ'
    |some (.bk ρ')=>some (.nx ρ')
    |r=>r:=by
   rw[uZ,fQ];show((some F).bind _)=_;rw[vJ]
  have Fp:∀m∈l,m<ai.length:=λm hm=>hn m (mZ _ hm);unfold vO;rw[hr,vJ];rcases tV wr with⟨hc,hk⟩|⟨h,cs,ao,rfl,hc,T,ok⟩
  ·rw[hk]at t;have e:aQ F=some (.ct F):=Gv (kz t rfl);rw[hc,ef,e];exact G5 G l q _ _ _ Fp (by omega)
  ·have hk:decide (kindOf (row h ("like" : Str) ao)=("like" : Str))=true:=decide_eq_true rfl;rw[hk]at t;have ec:ft (fA b9 (ae (f2 bB (ag 0) (ag 3)) (ae (fS "changes") ak))) (eM F)=some (cs.map dX):=by
    have e2:f2 bB (ag 0) (ag 3) (eM F)=some (row h ("like" : Str) ao,false):=a7 (x:=.tup ai) (y:=.int (n:Int)) (b1:=false) (b2:=false) rfl rfl (by simp[lW hr]);show(fA b9 _ (eM F)).bind _=_;rw[af (ds:=[row h ("like" : Str) ao,.str "changes"]) (au e2 (au (b:=false) rfl rfl)) (hZ (i:=6) qJ T)];rfl
   have k:=yo ai G n cs q M O (by have:=ok.len;omega);rw[hc];dsimp only;cases hp:gF q cs with
   |none=>
    rw[hp]at k;have e:aQ F=some (.rt (.tup [.str "beyond",.int (n:Int)]) false):=by
     refine ax t ?_;show gk _ _ _ (unown1 F 3)=_;rw[oK rfl];unfold gk;rw[ec];exact k
    show bL _ _ _ _=_;rw[ef,e]
   |some q'=>
    rw[hp]at k;obtain⟨w4,w5,k⟩:=k;have e:aQ F=some (.nx [some (.tup ai,false),some (G,false),some (.tup (q'.map .str),false),some (.int (n:Int),false),w4,w5]):=by
     refine ax t ?_;show gk _ _ _ (unown1 F 3)=_;rw[oK rfl];exact hW ec k
    dsimp only;rw[ef,e];have h1:=jR hp;have h2:=ok.len;exact G5 G l q' _ _ _ Fp (by omega)
end
def AX {ai:LD}{n:Nat}{r:D}(h:ai[n]? = some r):bB (.lst ai) (.int (n:Int))=some (r,false):=by simp[lW h]
def kA {ai:LD}{n:Nat}{r:D}(h:ai[n]? = some r):bB (.tup ai) (.int (n:Int))=some (r,false):=by simp[lW h]
def C7 (a b:Str):cL (.str a) (.str b)=some (.bl (decide (a=b)),false):=by simp
section
variable {ai:LD}(hw:∀j r,ai[j]? = some r->Rw j r)
include hw
theorem G6 (O M:D)(G:LN)(hg:∀n∈G,n<ai.length)(CO T:OB):∀(ks:LN)(q:LS)(v7:OB),(∀k∈ks,k<G.length)->q.length+8*ks.length<=500->match vO ai q (ks.map λk=>G.getD k 0) with
  |.inl r=>∃w7,bL (eI 7) cw (ks.map λ(n:Nat)=>.int (n:Int)) [some (.lst ai,false),some (O,false),some (M,false),some (.lst (G.map λ(n:Nat)=>.int (n:Int)),true),CO,T,some (.lst (q.map .str),true),v7]=some (.nx [some (.lst ai,false),some (O,false),some (M,false),some (.lst (G.map λ(n:Nat)=>.int (n:Int)),true),CO,T,some (.lst (r.map .str),true),w7])
  |.inr n=>bL (eI 7) cw (ks.map λ(n:Nat)=>.int (n:Int)) [some (.lst ai,false),some (O,false),some (M,false),some (.lst (G.map λ(n:Nat)=>.int (n:Int)),true),CO,T,some (.lst (q.map .str),true),v7]=some (.rt (.tup [.str "beyond",.int (n:Int)]) false)
 |[],q,v7,_,_=>⟨v7,rfl⟩
 |k::ks,q,v7,hk,hl=>by
  rw[vE]at hl;have KN:=hk k mX;obtain⟨n,hn⟩:∃n,G[k]? = some n:=⟨_,vU KN⟩;have KO:G.getD k 0=n:=by rw[vF,hn];rfl
  obtain⟨r,hr⟩:∃r,ai[n]? = some r:=⟨_,vU (hg n (mem_of_getElem? hn))⟩;have wr:=hw n r hr;let F:LS->DL.Env:=λq=>[some (.lst ai,false),some (O,false),some (M,false),some (.lst (G.map λ(n:Nat)=>.int (n:Int)),true),CO,T,some (.lst (q.map .str),true),some (.int (k:Int),false)];have en:f2 bB (ag 3) (ag 7) (F q)=some (.int (n:Int),false):=a7 (x:=.lst (G.map λ(n:Nat)=>.int (n:Int))) (y:=.int (k:Int)) (b1:=false) (b2:=false) rfl rfl (AX (by rw[vB,hn];rfl));have er:f2 bB (ag 0) (f2 bB (ag 3) (ag 7)) (F q)=some (r,false):=a7 (x:=.lst ai) (y:=.int (n:Int)) (b1:=false) (b2:=false) rfl en (AX hr);have ef:bL (eI 7) cw ((k::ks).map λ(n:Nat)=>.int (n:Int)) [some (.lst ai,false),some (O,false),some (M,false),some (.lst (G.map λ(n:Nat)=>.int (n:Int)),true),CO,T,some (.lst (q.map .str),true),v7]=match cw (F q) with
    |some (.nx ρ')=>bL (eI 7) cw (ks.map λ(n:Nat)=>.int (n:Int)) ρ'
    |some (.ct ρ')=>bL (eI 7) cw (ks.map λ(n:Nat)=>.int (n:Int)) ρ'
    |some (.bk ρ')=>some (.nx ρ')
    |r=>r:=by
   rw[uZ,fQ];show((some (F q)).bind _)=_;rw[vJ]
  have FD:∀m∈ks,m<G.length:=λm hm=>hk m (mZ _ hm);obtain⟨h,kind,ao,CP,_⟩:=id wr.g;have ed:f2 bB (f2 bB (ag 0) (f2 bB (ag 3) (ag 7))) (fI 1) (F q)=some (.tup (.str kind::ao),false):=a7 (x:=r) (y:=.int 1) (b1:=false) (b2:=false) er rfl (by rw[CP];exact kA (n:=1) rfl);have EZ:kindOf r=kind:=by rw[CP];rfl
  have t:br (f2 cL (f2 bB (f2 bB (f2 bB (ag 0) (f2 bB (ag 3) (ag 7))) (fI 1)) (fI 0)) (fS "like")) (F q)=some (decide (kindOf r=("like" : Str))):=aB (b:=false) (a7 (x:=.str kind) (y:=.str "like") (b1:=false) (b2:=false) (a7 (x:=.tup (.str kind::ao)) (y:=.int 0) (b1:=false) (b2:=false) ed rfl (kA (n:=0) rfl)) rfl (by rw[C7,EZ]));rw[uZ,KO];unfold vO;rw[hr,vJ];rcases tV wr with⟨hc,hk⟩|⟨h',cs,Fa,U,hc,Fb,ok⟩
  ·rw[hk]at t;rw[hc,ef,show cw (F q)=some (.nx (F q))from mw t rfl];exact G6 O M G hg CO T ks q _ FD (by omega)
  ·have e2:ao=Fa:=by rw[CP]at U;unfold row at U;injection U with e;injection e with _ e;injection e with e _;injection e with e;injection e
   subst e2;have IF:decide (kindOf r=("like" : Str))=true:=by rw[U];exact decide_eq_true rfl
   rw[IF]at t;have ec:f2 bB (f2 bB (f2 bB (ag 0) (f2 bB (ag 3) (ag 7))) (fI 1)) (fI 7) (F q)=some (.tup (cs.map dX),false):=a7 (x:=.tup (.str kind::ao)) (y:=.int 7) (b1:=false) (b2:=false) ed rfl (kA (n:=7) Fb);have kw:=Aj q (by omega) cs (by have:=ok.len;omega);have ew:fA gx (fV 6 (ae (f2 bB (f2 bB (f2 bB (ag 0) (f2 bB (ag 3) (ag 7))) (fI 1)) (fI 7)) ak)) (F q)=some (Ey (gF q cs)):=af (ds:=[.lst (q.map .str),.tup (cs.map dX)]) (au (b:=false) rfl (au ec rfl)) kw;rw[hc];dsimp only;cases hp:gF q cs with
   |none=>
    rw[hp]at ew;have e:cw (F q)=some (.rt (.tup [.str "beyond",.int (n:Int)]) false):=by
     refine kz t (bt (d:=.non) (b:=false) ew rfl (kz (aB (b:=false) rfl) (a9 (af (ds:=[.str "beyond",.int (n:Int)]) (au (b:=false) rfl (au (b:=false) ?_ rfl)) (eA _ (by simp))))));exact a7 (x:=.lst (G.map λ(n:Nat)=>.int (n:Int))) (y:=.int (k:Int)) (b1:=false) (b2:=false) rfl rfl (AX (by rw[vB,hn];rfl))
    show bL _ _ _ _=_;rw[ef,e]
   |some q'=>
    rw[hp]at ew;have e:cw (F q)=some (.nx (F q')):=kz t (cP (ds:=q'.map .str) ew (bq q') (mw (aB (b:=false) rfl) rfl));dsimp only;rw[ef,e];have h1:=jR hp;have h2:=ok.len;exact G6 O M G hg CO T ks q' _ FD (by omega)
end
noncomputable def yp:LS ⊕ Nat->D
 |.inl q=>.tup [.str "words",.tup (q.map .str)]
 |.inr n=>.tup [.str "beyond",.int (n:Int)]
def nI (l:LN):LD:=l.map λ(n:Nat)=>.int (n:Int)
def Ak (l:LD)(x:D):kT (l++[x]) (-1)=some x:=by
 unfold kT uo;rw[vA,length_singleton,if_neg (by decide),if_pos (by omega),vJ,show(-1+((l.length+1:Nat):Int)).toNat=l.length by omega];simp
section
variable {ai:LD}(hw:∀j r,ai[j]? = some r->Rw j r)
include hw
theorem vq (init:LN)(m:Nat)(T:∀n∈init++[m],n<ai.length)(hl:init.length<=40){h:Int}{ao:LD}{ps:LS}(hm:ai[m]? = some (row h ("paper" : Str) ao))(U:ao[5]? = some (.tup (ps.map .str)))(h8:ps.length<=8):bT [.tup ai,.lst (nI (init++[m]))]=some (yp (vO ai ps (init++[m]).reverse),false):=by
 have G:fA b9 (ae (f2 bB (ag 0) (f2 bB (ag 1) (f1 la (fI 1)))) (ae (fS "pieces") ak)) [some (.tup ai,false),some (.lst (nI (init++[m])),false),none,none,none,none]=some (.tup (ps.map .str),false):=by
  refine af (ds:=[row h ("paper" : Str) ao,.str "pieces"]) (au (b:=false) (a7 (x:=.tup ai) (y:=.int (m:Int)) (b1:=false) (b2:=false) rfl (a7 (x:=.lst (nI (init++[m]))) (y:=.int (-1)) (b1:=false) (b2:=false) rfl rfl ?_) (kA hm)) (au (b:=false) rfl rfl)) (hZ (i:=5) rZ U);show(kT (nI (init++[m])) (-1)).map _=_;unfold nI;rw[map_append];rw[show List.map (λ(n:Nat)=>D.int (n:Int)) [m]=[D.int (m:Int)]from rfl,Ak];rfl
 have M:zR (ag 1) (eM [some (.tup ai,false),some (.lst (nI (init++[m])),false),some (.tup (ps.map .str),false),none,none,none])=some ((init++[m]).reverse.map λ(n:Nat)=>.int (n:Int)):=by
  show some (nI (init++[m])).reverse=_;unfold nI;rw[List.map_reverse]
 have k:=G5 hw (.lst (nI (init++[m]))) (init++[m]).reverse ps none none none (λn hn=>T n (List.mem_reverse.mp hn)) (by rw[List.length_reverse,vA,length_singleton];omega);cases O:vO ai ps (init++[m]).reverse with
 |inl q=>
  rw[O]at k;obtain⟨w3,w4,w5,k⟩:=k;exact av rfl (bt (d:=.tup (ps.map .str)) (b:=false) G (show bA _=true from bq ps) (e8 (hW M k) (a9 (af (ds:=[.str "words",.tup (q.map .str)]) rfl (eA _ (by simp))))))
 |inr n=>
  rw[O]at k;refine av rfl (bt (d:=.tup (ps.map .str)) (b:=false) G (show bA _=true from bq ps) (oG ?_));show gk _ _ _ _=_;unfold gk;show(match zR (ag 1) (eM [some (.tup ai,false),some (.lst (nI (init++[m])),false),some (.tup (ps.map .str),false),none,none,none]) with|some ds=>bL (eI 3) aQ ds _|none=>none)=_;rw[M];exact k
end
def yq (G:LN):(List.range G.length).reverse.map (λk=>G.getD k 0)=G.reverse:=by
 rw[List.map_reverse];congr 1;apply ext_getElem?;intro i;by_cases h:i<G.length
 ·simp[h]
 ·simp[h]
def yr (n:Nat):jJ ((n:Int) - 1) (-1) n=(List.range n).reverse.map λ(k:Nat)=>.int (k:Int):=by
 unfold jJ;apply ext_getElem?;intro i;by_cases h:i<n
 ·rw[vB,vB,List.getElem?_reverse (by simpa using h),length_range,List.getElem?_range h,List.getElem?_range (by omega)];show some (D.int _)=some (D.int _);congr 2;omega
 ·rw[getElem?_eq_none (by simp;omega),getElem?_eq_none (by simp;omega)]
def Ez:FS:=aC (bf 6 (fA cX (ae (ca 5 6) ak)))
  (aC (fR (jg (f2 kr (fA bU (fV 3 ak)) (fI 1)) (f1 la (fI 1)) (f1 la (fI 1))) (eI 7) cw)
  (aM (fA bw (ae (fS "words") (ae (fA cn (fV 6 ak)) ak)))))
section
variable {ai:LD}(hw:∀j r,ai[j]? = some r->Rw j r)
include hw
theorem Al (O M:D)(G:LN)(hg:∀n∈G,n<ai.length)(hl:G.length<=40)(h0:0<G.length){ao:LD}{ps:LS}(hr:ao[5]? = some (.tup (ps.map .str)))(h8:ps.length<=8)(T v6 U:OB):Ez [some (.lst ai,false),some (O,false),some (M,false),some (.lst (nI G),true),T,some (.tup (.str "paper" :: ao),false),v6,U]=some (.rt (yp (vO ai ps G.reverse)) false):=by
 have e6:fA cX (ae (ca 5 6) ak) [some (.lst ai,false),some (O,false),some (M,false),some (.lst (nI G),true),T,some (.tup (.str "paper" :: ao),false),v6,U]=some (.lst (ps.map .str),true):=af (ds:=[.tup (ps.map .str)]) (au (b:=false) (a7 (x:=.tup (.str "paper" :: ao)) (y:=.int 6) (b1:=false) (b2:=false) rfl rfl (kA (n:=6) hr)) rfl) (by simp);have er:jg (f2 kr (fA bU (fV 3 ak)) (fI 1)) (f1 la (fI 1)) (f1 la (fI 1)) [some (.lst ai,false),some (O,false),some (M,false),some (.lst (nI G),true),T,some (.tup (.str "paper" :: ao),false),some (.lst (ps.map .str),true),U]=some ((List.range G.length).reverse.map λ(k:Nat)=>.int (k:Int)):=by
  have e1:f2 kr (fA bU (fV 3 ak)) (fI 1) [some (.lst ai,false),some (O,false),some (M,false),some (.lst (nI G),true),T,some (.tup (.str "paper" :: ao),false),some (.lst (ps.map .str),true),U]=some (.int ((G.length:Int) - 1),false):=a7 (x:=.int (G.length:Int)) (y:=.int 1) (b1:=false) (b2:=false) (af (ds:=[.lst (nI G)]) rfl (by simp[nI])) rfl rfl;show(f2 kr _ _ _).bind _=_;rw[e1,vJ];show(if(-1000<=(G.length:Int) - 1/\(G.length:Int) - 1<=1000/\-1000<=(-1:Int)/\(-1:Int)<=1000)/\((-1:Int)=1∨(-1:Int)=2∨(-1:Int)=3∨(-1:Int) = -1)then some (jJ ((G.length:Int) - 1) (-1) (Builtin.Range.rangeSize ((G.length:Int) - 1) (-1) (-1)).toNat)else none)=_;rw[if_pos (by omega)];have hs:(Builtin.Range.rangeSize ((G.length:Int) - 1) (-1) (-1)).toNat=G.length:=by
   unfold Builtin.Range.rangeSize;rw[if_neg (by decide),if_pos (by omega),show -(-1:Int)=1 by decide,Int.ediv_one];omega
  rw[hs,yr]
 have k:=G6 hw O M G hg T (some (.tup (.str "paper" :: ao),false)) (List.range G.length).reverse ps U (λk hk=>by simpa using hk) (by simp;omega);rw[yq]at k;cases ht:vO ai ps G.reverse with
 |inl q=>
  rw[ht]at k;obtain⟨w7,k⟩:=k;exact cP (ds:=ps.map .str) e6 (bq ps) (e8 (gP er k) (a9 (af (ds:=[.str "words",.tup (q.map .str)]) (au (b:=false) rfl (au (b:=false) (af (ds:=[.lst (q.map .str)]) rfl (by simp)) rfl)) (eA _ (by simp)))))
 |inr n=>
  rw[ht]at k;refine cP (ds:=ps.map .str) e6 (bq ps) (oG ?_);unfold fR;show(jg _ _ _ [some (.lst ai,false),some (O,false),some (M,false),some (.lst (nI G),true),T,some (.tup (.str "paper" :: ao),false),some (.lst (ps.map .str),true),U]).bind _=_;rw[er];exact k
end
def C8 (n:Nat)(l:LN):vM (.int (n:Int)) (nI l)=decide (n∈l):=by
 unfold nI vM;induction l with
 |nil=>simp
 |cons m l G=>
  rw[uZ,any_cons,G];by_cases h:n=m
  ·subst h;simp
  ·have h':¬(m:Int)=(n:Int):=λe=>h (by omega);simp[h,h']
def Am (l:LN):(nI l).all cO=true:=by
 rw[all_eq_true];intro d hd;obtain⟨m,_,rfl⟩:=mem_map.mp hd;rfl
def tW (n:Nat)(l:LN):gm (.int (n:Int)) (.lst (nI l))=some (.bl (!decide (n∈l)),false):=by
 show(if cO (.int (n:Int))=true/\(nI l).all cO=true then some (D.bl (!vM (.int (n:Int)) (nI l)),false)else none)=_;rw[if_pos ⟨rfl,Am l⟩,C8]
noncomputable def jw:LS:=[("paper" : Str),("like" : Str),("copy" : Str)]
def ie (ai:LD)(G:Int)(n:Nat):Bool:=match ai[n]? with
 |none=>false
 |some r=>decide (G0 r<=G) && decide (kindOf r∈jw)
def sd {ai:LD}(O:∀j r,ai[j]? = some r->Rw j r)(G:Int)(n:Nat):gw [.tup ai,.int G,.int (n:Int)]=some (.bl (ie ai G n),false):=by
 unfold ie;cases M:ai[n]? with
 |none=>
  have hn:ai.length<=n:=List.getElem?_eq_none_iff.mp M;refine av rfl (a9 ((da (p:=false) (q:=false) (b1:=false) (af (ds:=[.tup ai,.int G,.int (n:Int)]) rfl (av rfl (a9 ((da (p:=false) (q:=false) (b1:=false) ?_ λz=>by cases z).trans rfl)))) λz=>by cases z).trans rfl));have h1:¬(n:Int)<ai.length:=by omega
  exact(fZ (p:=true) (q:=false) (x:=.int 0) (y:=.int n) (z:=.int ai.length) (b1:=false) (b2:=false) (b3:=false) (b4:=false) rfl rfl (by simp) (by simp) λ_=>by simp[h1])
 |some r=>
  have hn:n<ai.length:=(vV M).1;have g:=(O n r M).g;have er:∀ {ρ:DL.Env},ρ[0]? = some (some (.tup ai,false))->ρ[2]? = some (some (.int (n:Int),false))->f2 bB (ag 0) (ag 2) ρ=some (r,false):=λ{ρ} h0 h2=>a7 (x:=.tup ai) (y:=.int (n:Int)) (b1:=false) (b2:=false) (by simp[h0]) (by simp[h2]) (kA M);refine av rfl (a9 (da (b1:=false) (af (ds:=[.tup ai,.int G,.int (n:Int)]) rfl (av rfl (a9 ((da (p:=true) (b1:=false) ?_ λ_=>?_).trans rfl)))) λ_=>?_))
  ·have h1:(n:Int)<ai.length:=by omega
   exact(fZ (p:=true) (q:=true) (x:=.int 0) (y:=.int n) (z:=.int ai.length) (b1:=false) (b2:=false) (b3:=false) (b4:=false) rfl rfl (by simp) (by simp) λ_=>by simp[h1])
  ·obtain⟨h,kind,ao,rfl,_⟩:=g;exact a7 (x:=.int h) (y:=.int G) (b1:=false) (b2:=false) (a7 (x:=row h kind ao) (y:=.int 0) (b1:=false) (b2:=false) (er rfl rfl) rfl (kA (n:=0) rfl)) rfl rfl
  ·refine a7 (x:=.str (kindOf r)) (y:=.tup (jw.map .str)) (b1:=false) (b2:=false) (af (ds:=[r]) (au (er rfl rfl) rfl) (gz g)) rfl ?_;simp only[z4,fB,vJ];rw[if_pos ⟨rfl,jP jw⟩,lU]
theorem jS:∀(l m:LN),l.Nodup->(∀x∈l,x∈m)->l.length<=m.length
 |[],m,_,_=>uO _
 |x::l,m,h,s=>by
  rw[nodup_cons]at h;have hx:=s x mX;have:=jS l (m.erase x) h.2 λy hy=>(List.mem_erase_of_ne (a:=y) (b:=x) (λe=>h.1 (by rw[←e];exact hy))).mpr (s y (mZ _ hy));rw[List.length_erase_of_mem hx]at this;have:0<m.length:=List.length_pos_of_mem hx;rw[vE];omega
def oM (G:LN)(n:Nat):nI (G++[n])=nI G++[.int (n:Int)]:=by unfold nI;rw[map_append];rfl
def oN (G:LN):(nI G).length=G.length:=vI _
def eW (ai:LD)(M:Int)(G:D)(O:LN)(at':Nat):DL.Env:=[some (.tup ai,false),some (.int M,false),some (G,false),some (.lst (nI O),true),some (.int (at':Int),false)]
def eU (ai:LD)(M:Int)(G:D)(O:LN)(at':Nat)(T U v7:OB):DL.Env:=[some (.lst ai,false),some (.int M,false),some (G,false),some (.lst (nI O),true),some (.int (at':Int),false),T,U,v7]
def yt (n:Nat):D:=.tup [.str "lacks",.int (n:Int)]
def G7 (s:Str):cL (.str s) (.str s)=some (.bl true,false):=by simp
def tX (n:Nat):bw [.str "lacks",.int (n:Int)]=some (yt n,false):=eA _ (by simp)
def jT {ao:LD}(g:iG k (row h kind ao)):aZ (.tup (.str kind::ao))=true:=by
 obtain⟨h',k',M,e,_,_,g⟩:=g;unfold row at e;injection e with e;injection e with _ e;injection e with e _;injection e with e;injection e with O G;subst G;show(true && bA ao)=true;rw[iE λd hd=>(g.flat d hd).1];rfl
section
variable {ai:LD}(hw:∀j r,ai[j]? = some r->Rw j r)
include hw
theorem oP (G:Int)(M:D)(O:LN)(at':Nat):bV (br (fA gw (fV 0 (fV 1 (fV 4 ak))))) (eW ai G M O at')=some (!ie ai G at'):=c7 (aB (af (ds:=[.tup ai,.int G,.int (at':Int)]) rfl (sd hw G at')))
theorem E1 {G:Int}(M:D)(O:LN){at':Nat}(h:ie ai G at'=false):fj (eW ai G M O at')=some (.rt (yt at') false) :=
 cf ((oP hw G M O at').trans (by rw[h];rfl)) (a9 (af (ds:=[.str "lacks",.int (at':Int)]) rfl (tX at')))
end
section
variable {ai:LD}(hw:∀j r,ai[j]? = some r->Rw j r)
include hw
theorem An {O:Int}(G:D)(M:LN){at':Nat}(h:ie ai O at'=true){hh:Int}{kind:Str}{ao:LD}(hk:kind=("paper" : Str))(hm:ai[at']? = some (row hh kind ao))(hl:M.length<=40){x:D}(k:bT [.tup ai,.lst (nI M++[.int (at':Int)])]=some (x,false)):fj (eW ai O G M at')=some (.rt x false):=by
 have T:br (f2 cL (fA be (ae (f2 bB (ag 0) (ag 4)) ak)) (fS "paper")) [some (.tup ai,false),some (.int O,false),some (G,false),some (.lst (nI M++[.int (at':Int)]),true),some (.int (at':Int),false)]=some true:=by
  refine aB (b:=false) (a7 (x:=.str kind) (y:=.str "paper") (b1:=false) (b2:=false) (af (ds:=[row hh kind ao]) (au (b:=false) (a7 (x:=.tup ai) (y:=.int (at':Int)) (b1:=false) (b2:=false) rfl rfl (kA hm)) rfl) (fH _ _ _)) rfl ?_);rw[C7,decide_eq_true hk]
 have U:(fV 0 (fV 3 ak)) [some (.tup ai,false),some (.int O,false),some (G,false),some (.lst (nI M++[.int (at':Int)]),true),some (.int (at':Int),false)]=some [.tup ai,.lst (nI M++[.int (at':Int)])]:=rfl;have e2:fA bT (fV 0 (fV 3 ak)) [some (.tup ai,false),some (.int O,false),some (G,false),some (.lst (nI M++[.int (at':Int)]),true),some (.int (at':Int),false)]=some (x,false):=af U k;have e3:aM (fA bT (fV 0 (fV 3 ak))) [some (.tup ai,false),some (.int O,false),some (G,false),some (.lst (nI M++[.int (at':Int)]),true),some (.int (at':Int),false)]=some (.rt x false):=by
  unfold aM;rw[e2];rfl
 exact ax ((oP hw O G M at').trans (by rw[h];rfl)) (tG (ds:=nI M) (d:=.int (at':Int)) (b:=false) rfl rfl rfl (bP (by rw[oN];omega)) (oG (kz T e3)))
theorem yu {O:Int}(M:D)(G:LN){at':Nat}(h:ie ai O at'=true){hh:Int}{ao:LD}{ps:LS}(hm:ai[at']? = some (row hh ("paper" : Str) ao))(T:ao[5]? = some (.tup (ps.map .str)))(U:ps.length<=8)(hp:∀n∈G++[at'],n<ai.length)(hl:G.length<=40):fj (eW ai O M G at')=some (.rt (yp (vO ai ps (G++[at']).reverse)) false):=by
 have k:=vq hw G at' hp hl hm T U;rw[oM]at k;exact An hw M G h rfl hm hl k
end
section
variable {ai:LD}(hw:∀j r,ai[j]? = some r->Rw j r)
include hw
theorem tY {G:Int}(M:D)(O:LN){at':Nat}(h:ie ai G at'=true){hh:Int}{kind:Str}{ao:LD}(hm:ai[at']? = some (row hh kind ao))(hk:kind≠("paper" : Str)){i n:Nat}(hi:jH bv (.str kind) (.str "of")=some (.int (i:Int),false))(T:ao[i]? = some (.int (n:Int)))(hl:O.length<=40):fj (eW ai G M O at')=some (.nx (eW ai G M (O++[at']) n)):=by
 refine ax ((oP hw G M O at').trans (by rw[h];rfl)) (tG (ds:=nI O) (d:=.int (at':Int)) (b:=false) rfl rfl rfl (bP (by rw[oN];omega)) (ax (aB (b:=false) (a7 (x:=.str kind) (y:=.str "paper") (b1:=false) (b2:=false) (af (ds:=[row hh kind ao]) (au (b:=false) (a7 (x:=.tup ai) (y:=.int (at':Int)) (b1:=false) (b2:=false) rfl rfl (kA hm)) rfl) (fH _ _ _)) rfl ?_)) ?_))
 ·rw[C7,decide_eq_false hk]
 ·refine(jk (d:=.int (n:Int)) (b:=false) (af (ds:=[row hh kind ao,.str "of"]) (au (b:=false) (a7 (x:=.tup ai) (y:=.int (at':Int)) (b1:=false) (b2:=false) rfl rfl (kA hm)) (au (b:=false) rfl rfl)) (hZ hi T)) rfl).trans ?_;unfold eW;rw[oM];rfl
end
section
variable {ai:LD}(hw:∀j r,ai[j]? = some r->Rw j r)
include hw
def HI:FT:=cj (br (f2 Fh (ag 4) (fA bU (fV 0 ak)))) (cj (br (f2 Db (f2 bB (f2 bB (ag 0) (ag 4)) (fI 0)) (ag 1))) (br (f2 gm (f2 bB (f2 bB (f2 bB (ag 0) (ag 4)) (fI 1)) (fI 0)) (fA bw (ae (fS "paper") (ae (fS "like") (ae (fS "copy") ak)))))))
theorem oQ (G:Int)(M:D)(O:LN)(at':Nat)(T U v7:OB):HI (eU ai G M O at' T U v7)=some (!ie ai G at'):=by
 have el:fA bU (fV 0 ak) (eU ai G M O at' T U v7)=some (.int (ai.length:Int),false):=af (ds:=[.lst ai]) rfl rfl;unfold ie;cases hr:ai[at']? with
 |none=>
  have hn:ai.length<=at':=List.getElem?_eq_none_iff.mp hr;have hd:decide ((ai.length:Int)<=(at':Int))=true:=decide_eq_true (by omega);exact(bG (p:=true) (q:=false) (aB (b:=false) (a7 (x:=.int (at':Int)) (y:=.int (ai.length:Int)) (b1:=false) (b2:=false) rfl el (show some (D.bl (decide ((ai.length:Int)<=(at':Int))),false)=_ by rw[hd]))) λz=>by cases z).trans rfl
 |some r=>
  have hn:at'<ai.length:=(vV hr).1;have hd:decide ((ai.length:Int)<=(at':Int))=false:=decide_eq_false (by omega);obtain⟨h,kind,ao,rfl,_⟩:=(hw at' r hr).g;have e0:f2 bB (ag 0) (ag 4) (eU ai G M O at' T U v7)=some (row h kind ao,false):=a7 (x:=.lst ai) (y:=.int (at':Int)) (b1:=false) (b2:=false) rfl rfl (AX hr);have e1:f2 bB (f2 bB (ag 0) (ag 4)) (fI 1) (eU ai G M O at' T U v7)=some (.tup (.str kind::ao),false):=a7 (x:=row h kind ao) (y:=.int 1) (b1:=false) (b2:=false) e0 rfl (kA (n:=1) rfl);have e2:gm (.str kind) (.tup (jw.map .str))=some (.bl (!decide (kind∈jw)),false):=by
   simp only[gm,fB,vJ];rw[if_pos ⟨rfl,jP jw⟩,lU]
  have k:HI (eU ai G M O at' T U v7)=some (false || (decide (G<h) || !decide (kind∈jw))):=bG (p:=false) (aB (b:=false) (a7 (x:=.int (at':Int)) (y:=.int (ai.length:Int)) (b1:=false) (b2:=false) rfl el (show some (D.bl (decide ((ai.length:Int)<=(at':Int))),false)=_ by rw[hd]))) λ_=>bG (p:=decide (G<h)) (q:=!decide (kind∈jw)) (aB (b:=false) (a7 (x:=.int h) (y:=.int G) (b1:=false) (b2:=false) (a7 (x:=row h kind ao) (y:=.int 0) (b1:=false) (b2:=false) e0 rfl (kA (n:=0) rfl)) rfl rfl)) λ_=>aB (b:=false) (a7 (x:=.str kind) (y:=.tup (jw.map .str)) (b1:=false) (b2:=false) (a7 (x:=.tup (.str kind::ao)) (y:=.int 0) (b1:=false) (b2:=false) e1 rfl (kA (n:=0) rfl)) (af (ds:=jw.map .str) rfl (eA _ (by simp[jw]))) e2);refine k.trans ?_;show some _=some (!(decide (h<=G) && decide (kind∈jw)));by_cases h1:h<=G
  ·have h2:¬G<h:=by omega
   rw[decide_eq_true h1,decide_eq_false h2];rfl
  ·have h2:G<h:=by omega
   rw[decide_eq_false h1,decide_eq_true h2];rfl
end
section
variable {ai:LD}(hw:∀j r,ai[j]? = some r->Rw j r)
include hw
theorem E2 {G:Int}(M:D)(O:LN){at':Nat}(T U v7:OB)(h:ie ai G at'=false):gc (eU ai G M O at' T U v7)=some (.rt (yt at') false) :=
 cf ((oQ hw G M O at' T U v7).trans (by rw[h];rfl)) (a9 (af (ds:=[.str "lacks",.int (at':Int)]) rfl (tX at')))
theorem yv {M:Int}(O:D)(G:LN){at':Nat}(v5 T U:OB)(h:ie ai M at'=true){hh:Int}{ao:LD}{ps:LS}(hm:ai[at']? = some (row hh ("paper" : Str) ao))(hr:ao[5]? = some (.tup (ps.map .str)))(h8:ps.length<=8)(hp:∀n∈G++[at'],n<ai.length)(hl:G.length<40):gc (eU ai M O G at' v5 T U)=some (.rt (yp (vO ai ps (G++[at']).reverse)) false):=by
 have k:=Al hw (.int M) O (G++[at']) hp (by simp;omega) (by simp) hr h8 (some (.int (at':Int),false)) T U;rw[oM]at k;exact ax ((oQ hw M O G at' v5 T U).trans (by rw[h];rfl)) (tG (ds:=nI G) (d:=.int (at':Int)) (b:=false) rfl rfl rfl (bP (by rw[oN];omega)) (bt (d:=.tup (.str "paper" :: ao)) (b:=false) (a7 (x:=row hh ("paper" : Str) ao) (y:=.int 1) (b1:=false) (b2:=false) (a7 (x:=.lst ai) (y:=.int (at':Int)) (b1:=false) (b2:=false) rfl rfl (AX hm)) rfl (kA (n:=1) rfl)) (jT (hw at' _ hm).g) (cf (aB (b:=false) (a7 (x:=.str "paper") (y:=.str "paper") (b1:=false) (b2:=false) (a7 (x:=.tup (.str "paper" :: ao)) (y:=.int 0) (b1:=false) (b2:=false) rfl rfl (kA (n:=0) rfl)) rfl (G7 _))) k)))
end
section
variable {ai:LD}(hw:∀j r,ai[j]? = some r->Rw j r)
include hw
theorem tZ {M:Int}(G:D)(O:LN){at':Nat}(v5 U v7:OB)(h:ie ai M at'=true){hh:Int}{kind:Str}{ao:LD}(hm:ai[at']? = some (row hh kind ao))(hk:kind≠("paper" : Str)){n:Nat}(hr:ao[if kind=("like" : Str)then 5 else 2]? = some (.int (n:Int)))(hl:O.length<=40):∃w5,gc (eU ai M G O at' v5 U v7)=some (.nx (eU ai M G (O++[at']) n w5 U v7)):=by
 refine⟨some (.tup (.str kind::ao),false),ax ((oQ hw M G O at' v5 U v7).trans (by rw[h];rfl)) (tG (ds:=nI O) (d:=.int (at':Int)) (b:=false) rfl rfl rfl (bP (by rw[oN];omega)) (bt (d:=.tup (.str kind::ao)) (b:=false) (a7 (x:=row hh kind ao) (y:=.int 1) (b1:=false) (b2:=false) (a7 (x:=.lst ai) (y:=.int (at':Int)) (b1:=false) (b2:=false) rfl rfl (AX hm)) rfl (kA (n:=1) rfl)) (jT (hw at' _ hm).g) (ax (aB (b:=false) (a7 (x:=.str kind) (y:=.str "paper") (b1:=false) (b2:=false) (a7 (x:=.tup (.str kind::ao)) (y:=.int 0) (b1:=false) (b2:=false) rfl rfl (kA (n:=0) rfl)) rfl ?_)) ?_)))⟩
 ·rw[C7,decide_eq_false hk]
 ·let ρ:DL.Env:=[some (.lst ai,false),some (.int M,false),some (G,false),some (.lst (nI O++[.int (at':Int)]),true),some (.int (at':Int),false),some (.tup (.str kind::ao),false),U,v7];have e1:fA mn (ae (f2 cL (ca 5 0) (fS "like")) ak) ρ=some (.int (if decide (kind=("like" : Str))then 1 else 0),false):=af (ds:=[.bl (decide (kind=("like" : Str)))]) (au (b:=false) (a7 (x:=.str kind) (y:=.str "like") (b1:=false) (b2:=false) (a7 (x:=.tup (.str kind::ao)) (y:=.int 0) (b1:=false) (b2:=false) rfl rfl (kA (n:=0) rfl)) rfl (C7 _ _)) rfl) rfl;have e2:f2 bB (ag 5) (f2 bB (fA c8 (ae (fI 3) (ae (fI 6) ak))) (fA mn (ae (f2 cL (ca 5 0) (fS "like")) ak))) ρ=some (.int (n:Int),false):=by
   have em:fA c8 (ae (fI 3) (ae (fI 6) ak)) ρ=some (.lst [.int 3,.int 6],true):=af (ds:=[.int 3,.int 6]) rfl (by simp[sizeLine]);by_cases T:kind=("like" : Str)
   ·rw[if_pos T]at hr;rw[decide_eq_true T]at e1;exact a7 (x:=.tup (.str kind::ao)) (y:=.int 6) (b1:=false) (b2:=false) rfl (a7 (x:=.lst [.int 3,.int 6]) (y:=.int 1) (b1:=true) (b2:=false) em e1 (AX (n:=1) rfl)) (kA (n:=6) hr)
   ·rw[if_neg T]at hr;rw[decide_eq_false T]at e1;exact a7 (x:=.tup (.str kind::ao)) (y:=.int 3) (b1:=false) (b2:=false) rfl (a7 (x:=.lst [.int 3,.int 6]) (y:=.int 0) (b1:=true) (b2:=false) em e1 (AX (n:=0) rfl)) (kA (n:=3) hr)
  refine(jk (d:=.int (n:Int)) (b:=false) e2 rfl).trans ?_;unfold eU;rw[oM];rfl
end
def qK:jH bv (.str "like") (.str "of")=some (.int ((5:Nat):Int),false):=aX (by decide +kernel)
def qL:jH bv (.str "copy") (.str "of")=some (.int ((2:Nat):Int),false):=aX (by decide +kernel)
def G8 (x:D):Prop:=(∃n:Nat,x=yt n)∨∃s,x=yp s
def cW:FT:=br (f2 gm (ag 4) (ag 3))
def E3 (ai:LD)(O:Int)(M:D)(G:LN)(at':Nat):cW (eW ai O M G at')=some (!decide (at'∈G)):=aB (b:=false) (a7 (x:=.int (at':Int)) (y:=.lst (nI G)) (b1:=false) (b2:=false) rfl rfl (tW at' G))
def E4 (ai:LD)(O:Int)(M:D)(G:LN)(at':Nat)(T U v7:OB):cW (eU ai O M G at' T U v7)=some (!decide (at'∈G)):=aB (b:=false) (a7 (x:=.int (at':Int)) (y:=.lst (nI G)) (b1:=false) (b2:=false) rfl rfl (tW at' G))
def ua {c:FT}{g:FS}(n:Nat)(h:c ρ=some true)(e:g ρ=some (.rt d b)):bR c g (n+1) ρ=some (.rt d b):=by unfold bR;rw[h];dsimp only;rw[e]
def ub {c:FT}{g:FS}(n:Nat)(h:c ρ=some true)(e:g ρ=some (.nx ρ')):bR c g (n+1) ρ=bR c g n ρ':=by rw[bR,h];dsimp only;rw[e]
def yw {c:FT}{g:FS}(n:Nat)(h:c ρ=some false):bR c g (n+1) ρ=some (.nx ρ):=by unfold bR;rw[h]
section
variable {ai:LD}(hw:∀j r,ai[j]? = some r->Rw j r) (Bb:ai.length<=24)
include hw Bb
theorem C9 (O:Int)(M:D):∀(f:Nat)(G:LN)(at':Nat)(v5 v6 v7:OB),25<=f+G.length->G.Nodup->(∀n∈G,n<ai.length) ->
  (∃x,G8 x/\bR cW fj f (eW ai O M G at')=some (.rt x false)/\bR cW gc f (eU ai O M G at' v5 v6 v7)=some (.rt x false)) ∨
  (∃U CQ w5 w6 w7,CQ∈U/\U.length<=24/\bR cW fj f (eW ai O M G at')=some (.nx (eW ai O M U CQ))/\bR cW gc f (eU ai O M G at' v5 v6 v7)=some (.nx (eU ai O M U CQ w5 w6 w7))):=by
 intro f;induction f with
 |zero=>
  intro G at' v5 v6 v7 hf hd hp;have:=jS G (List.range ai.length) hd λx hx=>mem_range.mpr (hp x hx);rw[length_range]at this;omega
 |succ f ih=>
  intro G at' v5 v6 v7 hf hd hp;have y7:=jS G (List.range ai.length) hd λx hx=>mem_range.mpr (hp x hx);rw[length_range]at y7;by_cases qN:at'∈G
  ·right;exact⟨G,at',v5,v6,v7,qN,by omega,yw f ((E3 ..).trans (by rw[decide_eq_true qN];rfl)),yw f ((E4 ..).trans (by rw[decide_eq_true qN];rfl))⟩
  ·have c1:cW (eW ai O M G at')=some true:=(E3 ..).trans (by rw[decide_eq_false qN];rfl);have c2:cW (eU ai O M G at' v5 v6 v7)=some true:=(E4 ..).trans (by rw[decide_eq_false qN];rfl);cases T:ie ai O at' with
   |false=>exact .inl ⟨yt at',.inl ⟨_,rfl⟩,ua f c1 (E1 hw M G T),ua f c2 (E2 hw M G v5 v6 v7 T)⟩
   |true=>
    cases hr:ai[at']? with
    |none=>unfold ie at T;rw[hr]at T;cases T
    |some r=>
     have wa:at'<ai.length:=(vV hr).1;have AY:∀n∈G++[at'],n<ai.length:=λn hn=>by
      rcases mem_append.mp hn with h|h
      ·exact hp n h
      ·rw[uU h];exact wa
     have IN:(G++[at']).Nodup:=by
      rw[nodup_append];refine⟨hd,by simp,λa ha b hb=>?_⟩;rw[uU hb];exact λe=>qN (e ▸ ha)
     have Hm:(G++[at']).length=G.length+1:=by simp
     have wr:=hw at' r hr;cases wr with
     |@non h kind ao g n=>
      have:ie ai O at'=false:=by
       unfold ie;rw[hr];show(_ && decide (kind∈jw))=false;rw[decide_eq_false (show ¬kind∈jw from n),Bool.and_false]
      rw[this]at T;cases T
     |@paper hh day ps g l=>exact .inl ⟨_,.inr ⟨_,rfl⟩,ua f c1 (yu hw M G T hr rfl l AY (by omega)),ua f c2 (yv hw M G v5 v6 v7 T hr rfl l AY (by omega))⟩
     |@like hh day n cs g c=>
      obtain⟨w5,e2⟩:=tZ hw M G v5 v6 v7 T hr (by decide +kernel) (n:=n) (by rw[if_pos rfl];rfl) (by omega);rw[ub f c1 (tY hw M G T hr (by decide +kernel) qK rfl (by omega)),ub f c2 e2];exact ih (G++[at']) n w5 v6 v7 (by omega) IN AY
     |@copy hh day n g=>
      obtain⟨w5,e2⟩:=tZ hw M G v5 v6 v7 T hr (by decide +kernel) (n:=n) (by rw[if_neg (by decide +kernel)];rfl) (by omega);rw[ub f c1 (tY hw M G T hr (by decide +kernel) qL rfl (by omega)),ub f c2 e2];exact ih (G++[at']) n w5 v6 v7 (by omega) IN AY
end
theorem oR:∀l:LN,gD (nI l)=some (l.map λ(n:Nat)=>(n:Int))
 |[]=>rfl
 |n::l=>by
  show(gD (nI l)).map _=_;rw[oR l];rfl
def Ao (l:LN)(i:Nat):(nI l).drop i=nI (l.drop i):=by unfold nI;rw[map_drop]
def vt (l:LN)(h:l.length<64):∃out:LI,dD [.lst (nI l)]=some (.lst (out.map .int),true)/\out.length=l.length:=by
 cases l with
 |nil=>exact⟨[],aX (by decide +kernel),rfl⟩
 |cons n l=>
  refine⟨pZ ((n::l).map λ(n:Nat)=>(n:Int)),?_,?_⟩
  ·have G:fD (nI (n::l))=none:=rfl;unfold dD;dsimp only;rw[G];dsimp only;rw[oR];dsimp only;rw[if_pos (by simpa using h)]
  ·unfold pZ;rw[(gs _ _).length_eq,vI]
def yx {l:LN}{n:Nat}(h:n∈l):∃i:Nat,gu (.lst (nI l)) (.int (n:Int))=some (.int (i:Int),false):=by
 refine⟨(l.map λ(n:Nat)=>(n:Int)).findIdx (· == (n:Int)),?_⟩;show(gD (nI l)).bind _=_;rw[oR,vJ];rw[if_pos];rw[List.findIdx_lt_length];exact⟨(n:Int),mem_map.mpr ⟨n,h,rfl⟩,by simp⟩
noncomputable def jx (out:LI):D:=.tup [.str "ring",.lst (out.map .int)]
def yy {ρ:DL.Env}{l:LN}{n i:Nat}(h3:ρ[3]? = some (some (.lst (nI l),true)))(h4:ρ[4]? = some (some (.int (n:Int),false)))(hi:gu (.lst (nI l)) (.int (n:Int))=some (.int (i:Int),false)):jz (ag 3) (bo (f2 gu (ag 3) (ag 4))) dg ρ=some (.lst (nI (l.drop i)),true):=by
 have G:ag 3 ρ=some (.lst (nI l),false):=by simp[h3]
 have e:f2 gu (ag 3) (ag 4) ρ=some (.int (i:Int),false):=a7 (x:=.lst (nI l)) (y:=.int (n:Int)) (b1:=false) (b2:=false) G (by simp[h4]) hi;have M:bo (f2 gu (ag 3) (ag 4)) ρ=some (some (i:Int)):=by unfold bo;rw[e]
 unfold jz;rw[G,vJ,M,vJ];show some (D.lst (dI (nI l) (some (i:Int)) none),true)=_;rw[Ex,Ao]
section
variable {ai:LD}(hw:∀j r,ai[j]? = some r->Rw j r) (Bb:ai.length<=24)
include hw Bb
theorem vv (M:Int)(G:Nat):(∃x,G8 x/\jr [.tup ai,.int M,.int (G:Int)]=some (x,false)/\kI [.lst ai,.int M,.int (G:Int)]=some (x,false)) ∨
  ∃out:LI,out.length<=24/\jr [.tup ai,.int M,.int (G:Int)]=some (jx out,true)/\kI [.lst ai,.int M,.int (G:Int)]=some (jx out,false):=by
 rcases C9 hw Bb M (.int (G:Int)) 1000 [] G none none none (by simp) nodup_nil (by simp)with⟨x,hx,T,U⟩|⟨O,at',w5,w6,w7,qN,hl,T,U⟩
 ·exact .inl ⟨x,hx,av rfl (cP (ds:=[]) (by simp[sizeLine]) rfl (bt (d:=.int (G:Int)) (b:=false) rfl rfl (oG T))),av rfl (cP (ds:=[]) (by simp[sizeLine]) rfl (bt (d:=.int (G:Int)) (b:=false) rfl rfl (oG U)))⟩
 ·obtain⟨i,hi⟩:=yx qN;obtain⟨out,ho,F8⟩:=vt (O.drop i) (by rw[length_drop];omega);have eq:∀ {ρ:DL.Env},ρ[3]? = some (some (.lst (nI O),true))->ρ[4]? = some (some (.int (at':Int),false))->fA dD (ae (jz (ag 3) (bo (f2 gu (ag 3) (ag 4))) dg) ak) ρ=some (.lst (out.map .int),true):=λh3 h4=>af (ds:=[.lst (nI (O.drop i))]) (au (yy h3 h4 hi) rfl) ho;refine .inr ⟨out,by rw[F8,length_drop];omega,av rfl (cP (ds:=[]) (by simp[sizeLine]) rfl (bt (d:=.int (G:Int)) (b:=false) rfl rfl (e8 T (a9 ?_)))),av rfl (cP (ds:=[]) (by simp[sizeLine]) rfl (bt (d:=.int (G:Int)) (b:=false) rfl rfl (e8 U (a9 (af (ds:=[.str "ring",.lst (out.map .int)]) (au (b:=false) rfl (au (eq rfl rfl) rfl)) (eA _ (by simp)))))))⟩;unfold xM;rw[eq rfl rfl];rfl
end
def CA (w:Str)(v:D):cj (bV (br (fA aG (fV 0 (ae (fC (.ty "tuple")) ak))))) (cj (br (f2 vL (fA bU (fV 0 ak)) (fI 2))) (cj (bV (br (fA aG (ae (ca 0 0) (ae (fC (.ty "str")) ak))))) (br (f2 vL (ca 0 0) (ca 1 0))))) [some (.tup [.str w,v],false),some (.tup [.str w,v],false)]=some false:=by
 have G:ca 0 0 [some (.tup [.str w,v],false),some (.tup [.str w,v],false)]=some (.str w,false):=a7 (x:=.tup [.str w,v]) (y:=.int 0) (b1:=false) (b2:=false) rfl rfl (kA (n:=0) rfl);have M:ca 1 0 [some (.tup [.str w,v],false),some (.tup [.str w,v],false)]=some (.str w,false):=a7 (x:=.tup [.str w,v]) (y:=.int 0) (b1:=false) (b2:=false) rfl rfl (kA (n:=0) rfl);exact(bG (p:=false) (q:=false) (c7 (p:=true) (aB (b:=false) (af (ds:=[.tup [.str w,v],.ty "tuple"]) rfl (by simp)))) λ_=>(bG (p:=false) (q:=false) (aB (b:=false) (a7 (x:=.int 2) (y:=.int 2) (b1:=false) (b2:=false) (af (ds:=[.tup [.str w,v]]) rfl rfl) rfl (by simp))) λ_=>(bG (p:=false) (q:=false) (c7 (p:=true) (aB (b:=false) (af (ds:=[.str w,.ty "str"]) (au G rfl) (by simp)))) λ_=>aB (b:=false) (a7 (x:=.str w) (y:=.str w) (b1:=false) (b2:=false) G M (by simp))).trans rfl).trans rfl).trans rfl
def yz (w q:Str)(v:D)(ρ:DL.Env)(h:ρ[1]? = some (some (.tup [.str w,v],false))):br (f2 cL (ca 1 0) (fC (.str q))) ρ=some (decide (w=q)):=aB (b:=false) (a7 (x:=.str w) (y:=.str q) (b1:=false) (b2:=false) (a7 (x:=.tup [.str w,v]) (y:=.int 0) (b1:=false) (b2:=false) (by simp[h]) rfl (kA (n:=0) rfl)) rfl (C7 _ _))
def mx (i:Nat)(w:Str)(v:D)(ρ:DL.Env)(h:ρ[i]? = some (some (.tup [.str w,v],false))):ca i 1 ρ=some (v,false):=a7 (x:=.tup [.str w,v]) (y:=.int 1) (b1:=false) (b2:=false) (by simp[h]) rfl (kA (n:=1) rfl)
def y2 (w:Str)(n:Int)(h1:decide (w=("words" : Str))=false)(h2:decide (w=("ring" : Str))=false):du [.tup [.str w,.int n],.tup [.str w,.int n]]=some (.bl true,false) :=
 av rfl (ax (CA w _) (ax ((yz w _ _ _ rfl).trans (by rw[h1])) (ax ((yz w _ _ _ rfl).trans (by rw[h2])) (a9 ((da (p:=true) (q:=true) (b1:=false) (af (ds:=[.int n,.ty "int"]) (au (mx 0 w _ _ rfl) rfl) (by simp)) λ_=>(da (p:=true) (q:=true) (b1:=false) (tH (p:=false) (b1:=false) (af (ds:=[.int n,.ty "bool"]) (au (mx 0 w _ _ rfl) rfl) (by simp))) λ_=>a7 (x:=.int n) (y:=.int n) (b1:=false) (b2:=false) (mx 0 w _ _ rfl) (mx 1 w _ _ rfl) (by simp)).trans rfl).trans rfl)))))
def y3 (q:LS):du [.tup [.str "words",.tup (q.map .str)],.tup [.str "words",.tup (q.map .str)]]=some (.bl true,false) :=
 av rfl (ax (CA _ _) (cf ((yz _ _ _ _ rfl).trans (by rw[decide_eq_true rfl])) (a9 ((da (p:=true) (q:=true) (b1:=false) (af (ds:=[.tup (q.map .str),.ty "tuple"]) (au (mx 0 _ _ _ rfl) rfl) (by simp)) λ_=>a7 (x:=.tup (q.map .str)) (y:=.tup (q.map .str)) (b1:=false) (b2:=false) (mx 0 _ _ _ rfl) (mx 1 _ _ _ rfl) (qu (by
  show(q.map D.str).all (aA 39)=true;exact lY 39 q))).trans rfl))))
def uc (out:LI):du [jx out,jx out]=some (.bl true,false) :=
 av rfl (ax (CA _ _) (ax ((yz _ _ _ _ rfl).trans (by rw[decide_eq_false (by decide +kernel)])) (cf ((yz _ _ _ _ rfl).trans (by rw[decide_eq_true rfl])) (a9 ((da (p:=true) (q:=true) (b1:=false) (af (ds:=[.lst (out.map .int),.ty "list"]) (au (mx 0 _ _ _ rfl) rfl) (by simp)) λ_=>a7 (x:=.lst (out.map .int)) (y:=.lst (out.map .int)) (b1:=false) (b2:=false) (mx 0 _ _ _ rfl) (mx 1 _ _ _ rfl) (qu (by
  show(out.map D.int).all (aA 39)=true;exact mv 39 out))).trans rfl)))))
def CB (h:G8 x):du [x,x]=some (.bl true,false)/\∃w v,x=.tup [.str w,v]/\decide (w=("ring" : Str))=false:=by
 rcases h with⟨n,rfl⟩|⟨s,rfl⟩
 ·exact⟨y2 _ _ (by decide +kernel) (by decide +kernel),_,_,rfl,by decide +kernel⟩
 ·cases s with
  |inl q=>exact⟨y3 q,_,_,rfl,by decide +kernel⟩
  |inr n=>exact⟨y2 _ _ (by decide +kernel) (by decide +kernel),_,_,rfl,by decide +kernel⟩
def E5 {f h fe:FE}{G M:FT}{O h2:FS}{x y:D×Bool}(T:f (eM ρ)=some x)(U:h (eM (ρ.set i none))=some y)(e1:G ((ρ.set i (some (x.1,false))).set k (some (y.1,false)))=some false)(e2:M ((ρ.set i (some (x.1,false))).set k (some (y.1,false)))=some false):Ck i f k h G O M j fe h2 ρ=some (.nx ((ρ.set i (some (x.1,false))).set k (some (y.1,false)))):=by
 unfold Ck;rw[T,vJ,U,vJ,e1];dsimp only;rw[e2]
def CC {f h fe:FE}{M O:FT}{T h2:FS}{x y z:D×Bool}{es:LD}(U:f (eM ρ)=some x)(eh:h (eM (ρ.set i none))=some y)(e1:M ((ρ.set i (some (x.1,false))).set k (some (y.1,false)))=some false)(e2:O ((ρ.set i (some (x.1,false))).set k (some (y.1,false)))=some true)(hj:Fl j x=some es)(G:fe ((ρ.set i (some (x.1,false))).set k (some (y.1,false)))=some z)(hi:i<ρ.length/\i≠k/\es.length<sizeLine)(k2:h2 ((ρ.set i none).set k (some (y.1,false)))=r):Ck i f k h M T O j fe h2 ρ=r:=by
 unfold Ck;rw[U,vJ,eh,vJ,e1];dsimp only;rw[e2];dsimp only;rw[hj,vJ,G,vJ,if_pos hi];exact k2
def E6 (i:Nat)(w q:Str)(v:D)(ρ:DL.Env)(h:ρ[i]? = some (some (.tup [.str w,v],false))):br (f2 cL (ca i 0) (fC (.str q))) ρ=some (decide (w=q)):=aB (b:=false) (a7 (x:=.str w) (y:=.str q) (b1:=false) (b2:=false) (a7 (x:=.tup [.str w,v]) (y:=.int 0) (b1:=false) (b2:=false) (by simp[h]) rfl (kA (n:=0) rfl)) rfl (C7 _ _))
section
variable {ai:LD}(hw:∀j r,ai[j]? = some r->Rw j r) (Bb:ai.length<=24)
include hw Bb
theorem Ap (x0 x1 x2:OB)(M:Int)(G:Nat)(v7 v8:OB):∃w7 w8,rQ [x0,x1,x2,some (.lst ai,false),some (.tup ai,false),some (.int M,false),some (.int (G:Int),false),v7,v8]=some (.nx [x0,x1,x2,some (.lst ai,false),some (.tup ai,false),some (.int M,false),some (.int (G:Int),false),w7,w8]):=by
 rcases vv hw Bb M G with⟨x,hx,O,T⟩|⟨out,hl,O,T⟩
 ·obtain⟨al,w,v,rfl,U⟩:=CB hx;exact⟨_,_,E5 (af (ds:=[.tup ai,.int M,.int (G:Int)]) rfl O) (af (ds:=[.lst ai,.int M,.int (G:Int)]) rfl T) (c7 (p:=true) (aB (b:=false) (af (ds:=[.tup [.str w,v],.tup [.str w,v]]) rfl al))) ((E6 8 w _ v _ rfl).trans (by rw[U]))⟩
 ·exact⟨none,some (jx out,false),CC (es:=out.map .int) (af (ds:=[.tup ai,.int M,.int (G:Int)]) rfl O) (af (ds:=[.lst ai,.int M,.int (G:Int)]) rfl T) (c7 (p:=true) (aB (b:=false) (af (ds:=[jx out,jx out]) rfl (uc out)))) ((E6 8 _ _ _ _ rfl).trans (by rw[decide_eq_true rfl])) rfl rfl ⟨by simp,by decide,bP (by simp;omega)⟩ (mw (c7 (p:=true) (aB (b:=false) (af (ds:=[jx out,jx out]) (au (af (ds:=[.tup ai,.int M,.int (G:Int)]) rfl O) rfl) (uc out)))) rfl)⟩
theorem y4 (T U x2:OB)(G:Int)(v6 v7 v8:OB):∃w6 M O,oH [T,U,x2,some (.lst ai,false),some (.tup ai,false),some (.int G,false),v6,v7,v8]=some (.nx [T,U,x2,some (.lst ai,false),some (.tup ai,false),some (.int G,false),w6,M,O]):=by
 obtain⟨ρ',e,w6,M,O,rfl⟩:=ji (tg:=eI 6) (g:=rQ) ai.length (λ_ ρ=>∃w6 M O:OB,ρ=[T,U,x2,some (.lst ai,false),some (.tup ai,false),some (.int G,false),w6,M,O])
  [T,U,x2,some (.lst ai,false),some (.tup ai,false),some (.int G,false),v6,v7,v8] ⟨v6,v7,v8,rfl⟩ (by
   rintro i ρ hi ⟨v6,v7,v8,rfl⟩;obtain⟨M,O,e⟩:=Ap hw Bb T U x2 G i v7 v8;exact⟨_,_,rfl,.inl e,_,M,O,rfl⟩)
 refine⟨w6,M,O,?_⟩;show fR _ _ _ (unown1 [T,U,x2,some (.lst ai,false),some (.tup ai,false),some (.int G,false),v6,v7,v8] 3)=_;rw[oK rfl];exact gP (eK (j:=ai.length) (b:=false) (af (ds:=[.lst ai]) rfl rfl) (by omega)) e
end
def Aq (w:Rw k r):aZ r=true:=by
 have g:=w.g;obtain⟨h,kind,ao,rfl,_⟩:=id g;show(true && (aZ (.tup (.str kind::ao)) && true))=true;rw[jT g];rfl
def vw (ns:LI):(xT ns (some 1) (some 25)).length<=24:=by
 unfold xT;rw[eV (by decide),eV (by decide),length_take];have h1:(1:Int).toNat=1:=rfl;have h2:(25:Int).toNat=25:=rfl;rw[h1,h2];omega
noncomputable def eL (ns:LI)(G:Int)(cs:LI):DL.Env:=[some (.lst (ns.map .int),false),some (.int G,false),some (.lst (cs.map .int),true),none,none,none,none,none,none]
def Ar (ns:LI)(G:Int)(cs:LI)(hl:cs.length<=24):∃M:LI,M.length<=24/\dh (br (f2 cL (f2 bF (ag 1) (fI 4)) (fI 1))) (bf 2 (f2 bC (ag 2) (fA cK (fV 1 (ae (fI 91) (ae (f2 kr (fI 24) (fA bU (fV 2 ak))) ak)))))) aV (eL ns G cs)=some (.nx (eL ns G M)):=by
 have t:br (f2 cL (f2 bF (ag 1) (fI 4)) (fI 1)) (eL ns G cs)=some (decide (G % 4=1)):=aB (b:=false) (a7 (x:=.int (G % 4)) (y:=.int 1) (b1:=false) (b2:=false) (a7 (x:=.int G) (y:=.int 4) (b1:=false) (b2:=false) rfl rfl (yn G (by decide))) rfl (C4 _ _));by_cases h:G % 4=1
 ·rw[decide_eq_true h]at t;obtain⟨xs,ex,O,_⟩:=jK G 91 (24 - cs.length) (by decide) (by omega);have es:f2 kr (fI 24) (fA bU (fV 2 ak)) (eL ns G cs)=some (.int ((24 - cs.length:Nat):Int),false):=a7 (x:=.int 24) (y:=.int (cs.length:Int)) (b1:=false) (b2:=false) rfl (af (ds:=[.lst (cs.map .int)]) rfl (by simp)) (by
   show some (D.int (24 - (cs.length:Int)),false)=_;rw[show(24:Int) - (cs.length:Int)=((24 - cs.length:Nat):Int) by omega])
  refine⟨cs++xs,by rw[vA];omega,kz t ((zU (ds:=(cs++xs).map .int) (a7 (x:=.lst (cs.map .int)) (y:=.lst (xs.map .int)) (b1:=false) (b2:=true) rfl (af (ds:=[.int G,.int ((91:Nat):Int),.int ((24 - cs.length:Nat):Int)]) (au (b:=false) rfl (au (b:=false) rfl (au es rfl))) ex) ?_) (gO _)).trans rfl)⟩;show(if(cs.map D.int).length+(xs.map D.int).length<=sizeLine then some (D.lst (cs.map D.int++xs.map D.int),true)else none)=_;rw[if_pos (db (by simp;omega)),map_append]
 ·rw[decide_eq_false h]at t;exact⟨cs,hl,mw t rfl⟩
def y6 (ns:LI)(T:Int)(cs:LI)(hl:cs.length<=24):∃ai:LD,ai.length=cs.length/\(∀j r,ai[j]? = some r->Rw j r)/\cD (dj (fA bU (fV 2 ak))) 1 [2] (eI 0) fT (fA ju (ae (fA cK (ae (f2 bB (ag 1) (ag 0)) (fV 0 (ae (fI 15) ak)))) (fV 0 ak))) (eL ns T cs)=some (.lst ai,true):=by
 have ch:∀k:Nat,∃r,k<24->(∃xs:LI,cK [.int (cs.getD k 0),.int (k:Int),.int ((15:Nat):Int)]=some (.lst (xs.map .int),true)/\ju [.lst (xs.map .int),.int (k:Int)]=some (r,false))/\Rw k r:=λk=>by
  by_cases hk:k<24
  ·obtain⟨xs,ex,G,hx⟩:=jK (cs.getD k 0) k 15 (by omega) (by decide);obtain⟨r,er,w⟩:=C5 G (λx h=>(hx x h).1) k hk;exact⟨r,λ_=>⟨⟨xs,ex,er⟩,w⟩⟩
  ·exact⟨.non,λh=>absurd h hk⟩
 obtain⟨h,hh⟩:=Classical.axiomOfChoice ch;refine⟨(List.range cs.length).map h,by simp,λj r e=>?_,?_⟩
 ·rw[vB]at e;obtain⟨i,U,rfl⟩:=oY e;have hi:=vV U;have M:i=j:=by rw[←hi.2,getElem_range]
  have hj:j<cs.length:=by simpa using hi.1
  subst M;exact(hh i (by omega)).2
 ·refine jl (List.range cs.length) (λ(k:Nat)=>.int (k:Int)) h ?_ (by simp;omega) λk hk=>?_
  ·refine(eK (j:=cs.length) (b:=false) (af (ds:=[.lst (cs.map .int)]) rfl (by simp)) (by omega)).trans ?_;rw[nn,map_map];rfl
  ·have O:k<cs.length:=mem_range.mp hk;obtain⟨⟨xs,ex,er⟩,_⟩:=hh k (by omega);refine⟨[some (.int (k:Int),false),some (.lst (cs.map .int),false)],rfl,false,af (ds:=[.lst (xs.map .int),.int (k:Int)]) (au (af (ds:=[.int (cs.getD k 0),.int (k:Int),.int ((15:Nat):Int)]) (au (b:=false) (a7 (x:=.lst (cs.map .int)) (y:=.int (k:Int)) (b1:=false) (b2:=false) rfl rfl ?_) (au (b:=false) rfl (au (b:=false) rfl rfl))) ex) (au (b:=false) rfl rfl)) er⟩;refine(tK (xs:=cs) (i:=(k:Int)) (by omega) (by simpa using O)).trans ?_;rw[toNat_natCast]
def law_true (ns:LI)(_:ns.length<=63):∃b,F_law [.lst (ns.map .int)]=some (.bl true,b):=by
 obtain⟨G,e0⟩:=vn ns;obtain⟨cs,Dk,KP⟩:=Ar ns G _ (vw ns);obtain⟨ai,Lr,hw,er⟩:=y6 ns G cs Dk;have T:ai.length<=24:=by omega
 have M:bA ai=true:=iE λr hr=>by
  obtain⟨j,hj⟩:=List.mem_iff_getElem?.mp hr;exact Aq (hw j r hj)
 have U:=qE ⟨T,λj r e=>(hw j r e).g⟩ M (.lst ai) (.inl rfl);obtain⟨ρ',e,v5,v6,v7,v8,rfl⟩:=jh (tg:=eI 5) (g:=oH) (λ_ ρ=>∃v5 v6 v7 v8:OB,ρ=[some (.lst (ns.map .int),false),some (.int G,false),some (.lst (cs.map .int),true),some (.lst ai,false),some (.tup ai,false),v5,v6,v7,v8]) (([9999,G / 4 % 14]:LI).map .int) [some (.lst (ns.map .int),false),some (.int G,false),some (.lst (cs.map .int),true),some (.lst ai,false),some (.tup ai,false),none,none,none,none] ⟨none,none,none,none,rfl⟩ (by
  rintro i d ρ hd ⟨v5,v6,v7,v8,rfl⟩;rw[vB]at hd;obtain⟨O,_,rfl⟩:=oY hd;obtain⟨w6,w7,w8,e⟩:=y4 hw T (some (.lst (ns.map .int),false)) (some (.int G,false)) (some (.lst (cs.map .int),true)) O v6 v7 v8;exact⟨_,_,rfl,.inl e,_,w6,w7,w8,rfl⟩)
 refine⟨false,av rfl (bt (d:=.int G) (b:=false) (af (ds:=[.lst (ns.map .int),.int 0]) rfl e0) rfl (cP (ds:=(xT ns (some 1) (some 25)).map .int) ?_ (gO _) (e8 (ρ':=eL ns G cs) KP (cP (ds:=ai) er M (bt (d:=.tup ai) (b:=false) (af (ds:=[.lst ai]) rfl U) (by rw[uv];exact M) (e8 (ρ':=[some (.lst (ns.map .int),false),some (.int G,false),some (.lst (cs.map .int),true),some (.lst ai,false),some (.tup ai,false),v5,v6,v7,v8]) ?_ (a9 rfl)))))))⟩
 ·show some (D.lst (dI (ns.map .int) (some 1) (some 25)),true)=_;rw[xU]
 ·show gk (ft (fA c8 (ae (fI 9999) (ae (f2 bF (f2 iP (ag 1) (fI 4)) (fI 14)) ak)))) (eI 5) oH [some (.lst (ns.map .int),false),some (.int G,false),some (.lst (cs.map .int),true),some (.lst ai,false),some (.tup ai,false),none,none,none,none]=_;refine hW (ds:=([9999,G / 4 % 14]:LI).map .int) ?_ e;show(fA c8 _ (eM [some (.lst (ns.map .int),false),some (.int G,false),some (.lst (cs.map .int),true),some (.lst ai,false),some (.tup ai,false),none,none,none,none])).bind _=_;rw[af (ds:=[.int 9999,.int (G / 4 % 14)]) (au (b:=false) rfl (au (b:=false) (a7 (x:=.int (G / 4)) (y:=.int 14) (b1:=false) (b2:=false) (a7 (x:=.int G) (y:=.int 4) (b1:=false) (b2:=false) rfl rfl (Ev G (by decide) (by decide))) rfl (yn _ (by decide))) rfl)) (show c8 [.int 9999,.int (G / 4 % 14)]=some (.lst [.int 9999,.int (G / 4 % 14)],true) by simp[sizeLine])];rfl
end Lw
namespace Lw
open PySem PySem.Spec PyProof.Rows L2 DL
def oS {a b:Expr}{G:Pos}:iL (.Subscript a b G):=by intro _ _;rfl
noncomputable def gf (i:Nat):Stmt:=PySem.Challenge.pw_sealchain_k39_words_put_together.main.body.getD i (.Pass ⟨0,0,0,0⟩)
structure Tx (w:World)(K:Frag)(mg:Str->Option Value):Prop where
 hX:∃h,K.In h/\h.Ns mainGlobals mg
 d0:dO K "is_whole" (gf 6)
 d1:dO K "is_day" (gf 7)
 d2:dO K "is_stretch" (gf 8)
 d3:dO K "is_matters" (gf 9)
 d4:dO K "is_name" (gf 18)
 d5:dO K "is_rule" (gf 20)
 d6:dO K "is_piece" (gf 19)
 d7:dO K "is_pieces" (gf 21)
 d8:dO K "is_change" (gf 22)
 d9:dO K "is_changes" (gf 23)
 d10:dO K "is_part" (gf 24)
 d11:dO K "is_deed" (gf 25)
 d12:dO K "word_of" (gf 28)
 d13:dO K "part_of" (gf 29)
 d14:dO K "day_of" (gf 30)
 d15:dO K "is_timely" (gf 26)
 d16:dO K "is_row" (gf 27)
 d17:dO K "root_offices" (gf 35)
 d18:dO K "is_second_root" (gf 36)
 d19:dO K "parts_in" (gf 31)
 d20:dO K "people_in" (gf 32)
 d21:dO K "count_people" (gf 37)
 d22:dO K "is_refused" (gf 38)
 d23:dO K "register_of" (gf 39)
 d24:dO K "is_known" (gf 40)
 d25:dO K "is_paper" (gf 43)
 d26:dO K "changed" (gf 45)
 d27:dO K "put_together" (gf 46)
 d28:dO K "words" (gf 47)
 d29:dO K "_law_cell_at" (gf 49)
 d30:dO K "_law_stream" (gf 50)
 d31:dO K "_law_piece" (gf 51)
 d32:dO K "_law_changes" (gf 52)
 d33:dO K "_law_of" (gf 53)
 d34:dO K "_law_no_paper" (gf 54)
 d35:dO K "_law_row" (gf 55)
 d36:dO K "_law_put_in" (gf 56)
 d37:dO K "_law_due" (gf 57)
 d38:dO K "_law_alike" (gf 58)
 d39:dO K "law" (gf 59)
 n0:mg "all" = none
 n1:mg "bool" = none
 n2:mg "int" = none
 n3:mg "isinstance" = none
 n4:mg "len" = none
 n5:mg "list" = none
 n6:mg "max" = none
 n7:mg "min" = none
 n8:mg "range" = none
 n9:mg "reversed" = none
 n10:mg "set" = none
 n11:mg "sorted" = none
 n12:mg "str" = none
 n13:mg "tuple" = none
 n14:mg "zip" = none
 k0:KC K mg "ALL_MATTERS" ik
 k1:KC K mg "LAST_DAY" lD
 k2:KC K mg "MOST_FURTHER" gQ
 k3:KC K mg "MOST_LETTERS" gR
 k4:KC K mg "MOST_PEOPLE" im
 k5:KC K mg "MOST_PIECES" dE
 k6:KC K mg "MOST_ROWS" dM
 k7:KC K mg "PAPERS" qp
 k8:KD w K mg "PARTS" bv
 k9:KC K mg "PERSON_PARTS" cu
 k10:KC K mg "RULES" tL
section
variable {P:Program}{w:World}{K:Frag}{mg:SV}{base:Heap}(T:Tx w K mg)
include T
theorem f0:Fn P w K mg base 1 "is_whole" cJ:=T.d0.fq T.hX lE ["thing","least","most"] 3 λnd G hu=>
  (bd (cT (ay aK T.n3 aH (aU 0 (ac (cV T.n2 sS) aj))) (cT (wK (ay aK T.n3 aH (aU 0 (ac (cV T.n1 wO) aj)))) (cU (kY gM gM (ah 1) (ah 0) (ah 2))))))
theorem f1:Fn P w K mg base 2 "is_day" eX:=T.d1.fq T.hX qq ["thing"] 1 λnd G hu=>
  (bd (bS (f0 T) G (aU 0 (df (ac (bY T.k1) aj)))))
theorem f2:Fn P w K mg base 3 "is_stretch" dc:=T.d2.fq T.hX jm ["thing"] 1 λnd G hu=>
  (am (bE (iq (cS (bW (ce (ay aK T.n3 aH (aU 0 (ac (cV T.n13 c6) aj))))) (cS (aF (rl hu) (ay cN T.n4 cG (aU 0 aj)) ar) (di (bW (ce (bS (f1 T) G (ac (aT 0) aj)))))))) eN)
   (bd (wJ (c9 zy (aT 0) dQ) (cU (cT (bS (f1 T) G (ac (aT 0) aj)) (cU (c9 iQ (aT 0) (aT 0))))))))
theorem f3:Fn P w K mg base 2 "is_matters" eC:=T.d3.fq T.hX jn ["thing"] 1 λnd G hu=>
  (bd (bS (f0 T) G (aU 0 (df (ac (bY T.k0) aj)))))
theorem f4:Fn P w K mg base 1 "is_name" dn:=T.d4.fq T.hX np ["thing"] 1 λnd G hu=>
  (am (bE (iq (cS (bW (ce (ay aK T.n3 aH (aU 0 (ac (cV T.n12 sT) aj))))) (di (bW (pq gM gM ar (ay cN T.n4 cG (aU 0 aj)) (bY T.k3)))))) eN)
   (bd (ay pF T.n0 pC (ac (kc ["sign"] (dW (ah 0)) gl (kY gM gM aw (ah 0) aw)) aj))))
theorem f5:Fn P w K mg base 1 "is_rule" nr:=T.d5.fq T.hX nq ["thing"] 1 λnd G hu=>
  (bd (cT (ay aK T.n3 aH (aU 0 (ac (cV T.n12 sT) aj))) (cU (c9 sR (ah 0) (bY T.k10)))))
theorem f6:Fn P w K mg base 2 "is_piece" eY:=T.d6.fq T.hX lF ["thing"] 1 λnd G hu=>
  (bd (bc (f4 T) G))
theorem f7:Fn P w K mg base 3 "is_pieces" fE:=T.d7.fq T.hX ke ["thing"] 1 λnd G hu=>
  (am (bE (iq (cS (bW (ce (ay aK T.n3 aH (aU 0 (ac (cV T.n13 c6) aj))))) (di (bW (pq gM gM ar (ay cN T.n4 cG (aU 0 aj)) (bY T.k5)))))) eN)
   (bd (ay pF T.n0 pC (ac (kc ["piece"] (dW (ah 0)) gl (bc (f6 T) G)) aj))))
theorem f8:Fn P w K mg base 3 "is_change" fF:=T.d8.fq T.hX kf ["thing"] 1 λnd G hu=>
  (am (bE (iq (cS (bW (ce (ay aK T.n3 aH (aU 0 (ac (cV T.n13 c6) aj))))) (di (aF (rl hu) (ay cN T.n4 cG (aU 0 aj)) ar)))) eN)
   (bd (cT (bS (f0 T) G (ac (aT 0) (df (ac (aI pr (bY T.k5) ar) aj)))) (cU (bS (f6 T) G (ac (aT 0) aj))))))
theorem f9:Fn P w K mg base 4 "is_changes" eD:=T.d9.fq T.hX jo ["thing","places"] 1 λnd G hu=>
  (am (bE (iq (cS (bW (ce (ay aK T.n3 aH (aU 0 (ac (cV T.n13 c6) aj))))) (di (bW (ce (ay pF T.n0 pC (ac (kc ["change"] (dW (ah 0)) gl (bc (f8 T) G)) aj))))))) eN)
   (am (xL ["change"] nd (dW (ah 0)) gl (aT 0))
   (bd (ay pF T.n0 pC (ac (kc ["place","later"] (xc T.n14 (ah 1) (bZ (ah 1) (bX ar) eB)) gl (c9 iQ (ah 0) (ah 1))) aj)))))
theorem f10:Fn P w K mg base 5 "is_part" aR:=T.d10.fq T.hX nu ["part","thing"] 2 λnd G hu=>
  (am (bE (iq (cS (aF (cF hu) (ah 0) aw) (di (aF (cF hu) (ah 0) aw)))) (bc (f1 T) G))
   (am (bE (iq (cS (aF (cF hu) (ah 0) aw) (cS (aF (cF hu) (ah 0) aw) (di (aF (cF hu) (ah 0) aw))))) (bc (f4 T) G))
   (am (bE (aF (cF hu) (ah 0) aw) (wJ (c9 zy (ah 1) dQ) (cU (bc (f4 T) G))))
   (am (bE (aF (cF hu) (ah 0) aw) (bc (f3 T) G))
   (am (bE (aF (cF hu) (ah 0) aw) (bc (f2 T) G))
   (am (bE (aF (cF hu) (ah 0) aw) (bS (f0 T) G (aU 1 (df (ac (bY T.k2) aj)))))
   (am (bE (aF (cF hu) (ah 0) aw) (bc (f5 T) G))
   (am (bE (aF (cF hu) (ah 0) aw) (bS (f0 T) G (aU 1 (df (ac (aI pr (bY T.k6) ar) aj)))))
   (am (bE (aF (cF hu) (ah 0) aw) (bc (f7 T) G))
   (bd (bc (f9 T) G)))))))))))
theorem f11:Fn P w K mg base 6 "is_deed" jL:=T.d11.fq T.hX nv ["thing"] 1 λnd G hu=>
  (am (bE (iq (cS (bW (ce (ay aK T.n3 aH (aU 0 (ac (cV T.n13 c6) aj))))) (cS (aF (cF hu) (ay cN T.n4 cG (aU 0 aj)) ar) (di (bW (ce (ay aK T.n3 aH (ac (aT 0) (ac (cV T.n12 sT) aj))))))))) eN)
   (am (bE (iq (cS (uP T.k8 (aT 0)) (di (aF (rl hu) (ay cN T.n4 cG (aU 0 aj)) (aI bI ar (ay cN T.n4 cG (ac (ot T.k8 (aT 0)) aj))))))) eN)
   (bd (ay pF T.n0 pC (ac (kc ["part","value"] (xc T.n14 (ot T.k8 (aT 0)) (bZ (ah 0) (bX ar) eB)) gl (bc (f10 T) G)) aj)))))
theorem As:Fn P w K mg base 1 "word_of" be:=T.d12.fq T.hX nw ["row"] 1 λnd G hu=>
  (bd (bj (aT 0) ar))
theorem CD:Fn P w K mg base 2 "part_of" b9:=T.d13.fq T.hX ny ["row","part"] 2 λnd G hu=>
  (bd (bj (aT 0) (aI bI ar (zM T.k8 (bc (As T) G) (ah 1)))))
theorem IZ:Fn P w K mg base 3 "day_of" jp:=T.d14.fq T.hX qr ["row"] 1 λnd G hu=>
  (am (bE (aF (cF hu) (bc (As T) G) aw) dQ)
   (bd (bc (CD T) G)))
theorem Ja:Fn P w K mg base 4 "is_timely" gS:=T.d15.fq T.hX kg ["row","day"] 1 λnd G hu=>
  (am (aS nd (bc (IZ T) G))
   (am (bE (aF zy (ah 1) dQ) eN)
   (am (bE (iq (wI (aF (cF hu) (bc (As T) G) aw) (sD (aF iQ (bc (CD T) G) (ah 1))))) eN)
   (bd (c9 gM (ah 1) (aT 0))))))
theorem Jb:Fn P w K mg base 7 "is_row" lG:=T.d16.fq T.hX qt ["thing"] 1 λnd G hu=>
  (am (bE (iq (cS (bW (ce (ay aK T.n3 aH (aU 0 (ac (cV T.n13 c6) aj))))) (di (aF (rl hu) (ay cN T.n4 cG (aU 0 aj)) ar)))) eN)
   (bd (cT (bS (f1 T) G (ac (aT 0) aj)) (cT (bS (f11 T) G (ac (aT 0) aj)) (cU (bc (Ja T) G))))))
theorem Jc:Fn P w K mg base 3 "root_offices" eZ:=T.d17.fq T.hX gT ["rows"] 1 λnd G hu=>
  (bd (kc ["row"] (dW (ah 0)) (wG (aF (cF hu) (bc (As T) G) aw)) (bc (CD T) G)))
theorem Jd:Fn P w K mg base 4 "is_second_root" dq:=T.d18.fq T.hX ga ["ahead","row"] 2 λnd G hu=>
  (bd (cT (c9 (cF hu) (bc (As T) G) aw) (cU (c9 sR (bc (CD T) G) (bc (Jc T) G)))))
theorem Je:Fn P w K mg base 2 "parts_in" dr:=T.d19.fq T.hX lH ["row"] 1 λnd G hu=>
  (bd (rO rfl T.n5 T.n14 (ot T.k8 (bc (As T) G)) (bZ (aT 0) (bX ar) eB)))
theorem Jf:Fn P w K mg base 3 "people_in" dN:=T.d20.fq T.hX kh ["row","names"] 1 λnd G hu=>
  (am (xL ["part","value"] nd (dW (bc (Je T) G)) (wG (iq (wI (aF sR (ah 0) (bY T.k9)) (sD (aF z0 (ah 1) dQ))))) (ah 1))
   (bd (rH rfl T.n11 T.n10 (ah 1))))
theorem Jg:Fn P w K mg base 4 "count_people" fg:=T.d21.fq T.hX gU ["rows","names","row"] 1 λnd G hu=>
  (am (aS nd (dS aj))
   (am (nj (dW (ah 0)) (vN 2 nd) dH (b8 (Cd (i:=1) (bc (Jf T) G))))
   (bd (uM rfl T.n4 T.n10 (ah 1)))))
theorem Jh:Fn P w K mg base 8 "is_refused" gv:=T.d22.fq T.hX jq ["book","place"] 2 λnd G hu=>
  (am (bE (iq (cS (aF DT (ah 1) (bY T.k6)) (di (bW (ce (bS (Jb T) G (ac (bj (ah 0) (ah 1)) aj))))))) eN)
   (bd (wJ (bS (Jd T) G (ac (bZ (ah 0) eB (bX (ah 1))) (ac (bj (ah 0) (ah 1)) aj))) (cU (c9 BP (bS (Jg T) G (ac (bZ (ah 0) eB (bX (aI bI (ah 1) ar))) aj)) (bY T.k4))))))
theorem Ji:Fn P w K mg base 9 "register_of" fM:=T.d23.fq T.hX io ["rows","book","place"] 1 λnd G hu=>
  (am (gC (bW (ce (ay uR T.n3 aH (aU 0 (ac (bg (ac (cV T.n5 lf) (ac (cV T.n13 c6) aj))) aj))))) (b8 pK) fL)
   (am (aS nd (cM kG T.n13 c6 (aU 0 aj)))
   (am (tE (iR T.n8 (ay cN T.n4 cG (aU 1 aj))) (vN 2 nd) dH (b8 (gC (ce (bc (Jh T) G)) (b8 pK) fL)))
   (b8 (nZ 1)))))
theorem Jj:Fn P w K mg base 1 "is_known" lJ:=T.d24.fq T.hX lI ["book","known","number"] 3 λnd G hu=>
  (bd (cT (kY gM iQ ar (ah 2) (ay cN T.n4 cG (aU 0 aj))) (cU (c9 gM (bj (bj (ah 0) (ah 2)) ar) (ah 1)))))
theorem Jk:Fn P w K mg base 2 "is_paper" gw:=T.d25.fq T.hX lK ["book","known","number"] 3 λnd G hu=>
  (bd (cT (bc (Jj T) G) (cU (c9 sR (bS (As T) G (ac (bj (ah 0) (ah 2)) aj)) (bY T.k7)))))
theorem Jl:Fn P w K mg base 1 "changed" jM:=T.d26.fq T.hX nA ["pieces","place","piece"] 3 λnd G hu=>
  (bd (aI xC (aI xC (bZ (ah 0) eB (bX (ah 1))) (bg (aU 2 aj))) (bZ (ah 0) (bX (aI bI (ah 1) ar)) eB)))
theorem Jm:Fn P w K mg base 3 "put_together" bT:=T.d27.fq T.hX gW ["book","path","pieces","number","place","piece"] 2 λnd G hu=>
  (am (aS nd (bS (CD T) G (ac (bj (hs:=oS) (ah 0) (bj (ah 1) (wH wM ar))) (ac aw aj))))
   (am (nj (Co T.n9 (ah 1)) (vN 3 nd) dH (am (gC (aF (rl hu) (bS (As T) G (ac (bj (ah 0) (ah 3)) aj)) aw) (b8 zG) fL)
   (b8 (xf [3] (nj (dW (bS (CD T) G (ac (bj (ah 0) (ah 3)) (ac aw aj)))) (nJ rfl (dG (vN 4 nd) (dG (vN 5 nd) kF))) AE (am (bE (aF BP (ah 4) (ay cN T.n4 cG (aU 2 aj))) (bg (ac aw (aU 3 aj))))
   (b8 (aS nd (bc (Jl T) G)))))))))
   (bd (bg (ac aw (aU 2 aj))))))
theorem HJ:Fn P w K mg base 4 "words" jr:=T.d28.fq T.hX tM ["book","known","number","path","at"] 3 λnd G hu=>
  (am (aS nd (dS aj))
   (am (aS nd (ah 2))
   (am (pw 1000 PassesOwn.never (aF le (ah 4) (ah 3)) (am (bE (bW (ce (bc (Jk T) G))) (bg (ac aw (aU 4 aj))))
   (am (kZ (i:=3) (ah 4))
   (am (bE (aF (cF hu) (bS (As T) G (ac (bj (ah 0) (ah 4)) aj)) aw) (bc (Jm T) G))
   (b8 (aS nd (bS (CD T) G (ac (bj (ah 0) (ah 4)) (ac aw aj)))))))))
   (bd (zQ aw (ay qf T.n11 lu (ac (bZ (ah 3) (bX (ql (ah 3) (ah 4))) eB) aj)))))))
theorem Jn:Fn P w K mg base 1 "_law_cell_at" gX:=T.d29.fq T.hX ki ["_law_script","_law_k"] 2 λnd G hu=>
  (am (bE (aF iQ (ah 1) (ay cN T.n4 cG (aU 0 aj))) (bj (ah 0) (ah 1)))
   (bd ar))
theorem HK:Fn P w K mg base 1 "_law_stream" cK:=T.d30.fq T.hX lL ["_law_cell","_law_salt","_law_many","_law_found","_law_number","_law_k"] 3 λnd G hu=>
  (am (aS nd (dS aj))
   (am (aS nd (aI cE (aI bI (aI bI (aI jB (aI cE (ah 0) ar) ar) (aI jB (aI jB (ah 1) (ah 1)) ar)) ar) ar))
   (am (tE (iR T.n8 (ah 2)) (vN 5 nd) dH (am (aS nd (aI cE (aI bI (aI bI (aI bI (aI jB (ah 4) (ah 4)) (aI jB ar (ah 4))) (ah 5)) (ah 1)) ar))
   (b8 (kZ (i:=3) (ah 4)))))
   (b8 (nZ 3)))))
theorem HL:Fn P w K mg base 1 "_law_piece" gb:=T.d31.fq T.hX nB ["_law_x","_law_letters"] 1 λnd G hu=>
  (am (aS nd aw)
   (bd (BW PySem.F.slot_str_join PySem.F.type_str_join BY wW aw (kc ["_law_k","_law_letters","_law_x"] (pE T.n8 (aI bI ar (aI cE (ah 0) ar))) gl (bj (ah 1) (aI cE (aI bI (aI jA (ah 2) ar) (aI jB (ah 0) (aI jA (ah 2) ar))) ar))))))
theorem Jo:Fn P w K mg base 2 "_law_changes" gY:=T.d32.fq T.hX kl ["_law_xs","_law_found","_law_place","_law_x"] 1 λnd G hu=>
  (am (aS nd (dS aj))
   (am (aS nd ar)
   (am (nj (dW (ah 0)) (vN 3 nd) dH (am (aS nd (aI bI (ah 2) (bj (dS (df (df (df (df (df aj)))))) (aI cE (ah 3) ar))))
   (am (gC (aF iQ (ah 2) ar) (b8 (kZ (i:=1) (bg (aU 2 (ac (bS (HL T) G (ac (aI jA (ah 3) ar) aj)) aj))))) fL)
   (b8 (aS nd (aI bI (ah 2) ar))))))
   (bd (cM kG T.n13 c6 (aU 1 aj))))))
theorem G9:Fn P w K mg base 1 "_law_of" lM:=T.d33.fq T.hX xV ["_law_xs","_law_k"] 2 λnd G hu=>
  (am (bE (aF (cF hu) (aI cE (aT 0) ar) ar) (aI cE (aT 0) ar))
   (bd (ay Ea T.n6 DY (df (ac (ay Eb T.n7 DZ (df (ac (aI bI (aI pr (aI bI (ah 1) (aI cE (aT 0) ar)) ar) (cM AJ T.n2 sS (ac (c9 (cF hu) (aI cE (aT 0) ar) ar) aj))) aj))) aj)))))
theorem Jp:Fn P w K mg base 2 "_law_no_paper" eE:=T.d34.fq T.hX jt ["_law_xs","_law_k","_law_day","_law_near","_law_some","_law_office"] 3 λnd G hu=>
  (am (aS nd (bc (G9 T) G))
   (am (aS nd (dS (ac (bg (ac aw (aU 2 (ac aw (aU 3 aj))))) (ac (bg (ac aw (aU 2 (ac aw (ac aw (df (ac (bg (df (ac dQ aj))) (df aj)))))))) (ac (bg (ac aw (aU 2 (ac aw (ac aw aj))))) aj)))))
   (am (aS nd (aI bI (ah 4) (dS (ac (bg (ac aw (aU 2 (ac aw aj)))) (ac (bg (ac aw (aU 2 (ac aw aj)))) (ac (bg (ac aw (aU 2 (ac aw aj)))) (ac (bg (ac aw (aU 2 (ac aw (ac aw (ac aw aj)))))) aj)))))))
   (am (aS nd (aI bI aw (bj aw (aI cE (ah 1) ar))))
   (am (aS nd (aI bI (ah 4) (dS (ac (bg (ac aw (aU 2 (ac aw (ac aw (ac aw (aU 2 aj))))))) (ac (bg (ac aw (aU 5 (df (df (ac aw aj)))))) aj)))))
   (bd (bj (ah 4) (aI cE (aI cE (aT 0) ar) ar))))))))
theorem Jq:Fn P w K mg base 3 "_law_row" ju:=T.d35.fq T.hX tN ["_law_xs","_law_k","_law_day","_law_word","_law_at","_law_pieces","_law_changes_here"] 2 λnd G hu=>
  (am (aS nd (aI cE (aT 0) ar))
   (am (aS nd (aI cE (aT 0) ar))
   (am (aS nd (aI bI (ah 2) (bj (dS (df (ac (aI cE (aI jA (aT 0) ar) ar) aj))) (aI cE (aI jA (aT 0) ar) ar))))
   (am (bE (aF (cF hu) (ah 3) ar) (bg (aU 4 (ac (bc (Jp T) G) aj))))
   (am (gC (aF iQ (ah 3) ar) (am (aS nd (cM kG T.n13 c6 (ac (kc ["_law_x"] (dW (bZ (ah 0) (bX ar) (bX (aI bI ar (aI cE (aT 0) ar))))) gl (bc (HL T) G)) aj)))
   (bd (bg (aU 4 (ac (bg (ac aw (aU 2 (ac aw (df (ac (bg (df (ac dQ aj))) (ac dQ (aU 5 aj)))))))) aj))))) fL)
   (am (gC (aF iQ (ah 3) ar) (am (aS nd (bS (Jo T) G (ac (bZ (ah 0) (bX ar) (bX (aI bI ar (aI cE (aT 0) ar)))) aj)))
   (bd (bg (aU 4 (ac (bg (ac aw (aU 2 (ac aw (df (ac (bg (df (ac dQ aj))) (ac dQ (ac (bc (G9 T) G) (aU 6 aj))))))))) aj))))) fL)
   (bd (bg (aU 4 (ac (bg (ac aw (aU 2 (ac aw (ac (bc (G9 T) G) aj))))) aj))))))))))
theorem Jr:Fn P w K mg base 1 "_law_put_in" gx:=T.d36.fq T.hX lN ["_law_pieces","_law_changes_here","_law_found","_law_place","_law_piece_here"] 2 λnd G hu=>
  (am (aS nd (cM xg T.n5 lf (aU 0 aj)))
   (am (nj (dW (ah 1)) (nJ rfl (dG (vN 3 nd) (dG (vN 4 nd) kF))) AE (b8 (gC (aF (cF hu) (ah 3) (ay cN T.n4 cG (aU 2 aj))) (b8 (kZ (i:=2) (ah 4))) (b8 (gC (aF iQ (ah 3) (ay cN T.n4 cG (aU 2 aj))) (b8 (Cc (i:=2) (ah 4) (ah 3))) (bd dQ))))))
   (b8 (nZ 2))))
theorem Js:Fn P w K mg base 2 "_law_due" kI:=T.d37.fq T.hX tO ["_law_rows","_law_known","_law_number","_law_gone","_law_at","_law_deed","_law_pieces","_law_k"] 3 λnd G hu=>
  (am (aS nd (dS aj))
   (am (aS nd (ah 2))
   (am (pw 1000 PassesOwn.never (aF le (ah 4) (ah 3)) (am (bE (iq (cS (aF DT (ah 4) (ay cN T.n4 cG (aU 0 aj))) (cS (aF BP (bj (bj (ah 0) (ah 4)) ar) (ah 1)) (di (aF le (bj (bj (bj (ah 0) (ah 4)) ar) ar) (bg (ac aw (ac aw (ac aw aj))))))))) (bg (ac aw (aU 4 aj))))
   (am (kZ (i:=3) (ah 4))
   (am (aS nd (bj (bj (ah 0) (ah 4)) ar))
   (am (gC (aF (cF hu) (aT 5) aw) (am (aS nd (cM xg T.n5 lf (ac (aT 5) aj)))
   (am (tE (vf T.n8 (aI pr (ay cN T.n4 cG (aU 3 aj)) ar) (wH wM ar) (wH wM ar)) (vN 7 nd) dH (b8 (gC (aF (cF hu) (bj (bj (bj (hs:=oS) (ah 0) (bj (ah 3) (ah 7))) ar) ar) aw) (am (aS nd (bS (Jr T) G (aU 6 (ac (bj (bj (bj (hs:=oS) (ah 0) (bj (ah 3) (ah 7))) ar) ar) aj))))
   (b8 (bE (aF zy (ah 6) dQ) (bg (ac aw (ac (bj (ah 3) (ah 7)) aj)))))) fL)))
   (bd (bg (ac aw (ac (cM kG T.n13 c6 (aU 6 aj)) aj)))))) fL)
   (b8 (aS nd (bj (hs:=oS) (ah 5) (bj (dS (df (df aj))) (cM AJ T.n2 sS (ac (c9 (cF hu) (aT 5) aw) aj)))))))))))
   (bd (bg (ac aw (ac (ay qf T.n11 lu (ac (bZ (ah 3) (bX (ql (ah 3) (ah 4))) eB) aj)) aj)))))))
theorem HM:Fn P w K mg base 1 "_law_alike" du:=T.d38.fq T.hX nD ["_law_found","_law_due_here"] 2 λnd G hu=>
  (am (bE (iq (cS (bW (ce (ay aK T.n3 aH (aU 0 (ac (cV T.n13 c6) aj))))) (cS (aF (rl hu) (ay cN T.n4 cG (aU 0 aj)) ar) (cS (bW (ce (ay aK T.n3 aH (ac (aT 0) (ac (cV T.n12 sT) aj))))) (di (aF (rl hu) (aT 0) (aT 1))))))) eN)
   (am (bE (aF (cF hu) (aT 1) aw) (cT (ay aK T.n3 aH (ac (aT 0) (ac (cV T.n13 c6) aj))) (cU (c9 (cF hu) (aT 0) (aT 1)))))
   (am (bE (aF (cF hu) (aT 1) aw) (cT (ay aK T.n3 aH (ac (aT 0) (ac (cV T.n5 lf) aj))) (cU (c9 (cF hu) (aT 0) (aT 1)))))
   (bd (cT (ay aK T.n3 aH (ac (aT 0) (ac (cV T.n2 sS) aj))) (cT (wK (ay aK T.n3 aH (ac (aT 0) (ac (cV T.n1 wO) aj)))) (cU (c9 (cF hu) (aT 0) (aT 1)))))))))
theorem head {U:Addr}(O:mg "law" = some (.ref U)):∃fd:FuncData,(∀(s:Shared)(u:Value),BindsTo s fd ⟨[u],[]⟩ [("_law_script",u)])/\∀base:Heap,K.In base->base.Ns mainGlobals mg->my P w K mg base rg 10 U fd ["_law_script"] (AA K F_law):=by
 have S:FnScope ["_law_script","_law_first","_law_cells","_law_rows","_law_book","_law_known","_law_number","_law_found","_law_due_here"] ["_law_script"] (aD (gf 59)):=by refine⟨rfl,rfl,rfl,?_,rfl,?_,?_⟩<;>decide +kernel
 have ⟨h,X,G⟩:=T.hX;exact dO.law T.d39 X G O S (λ_ _ _ _ _ _ u=>rfl) λbase kb nb f cC A outer s H E M=>have hu:=DW M;have nd:=S.nd;(show md _ _ AT from
  (am (aS nd (bS (Jn T) M (aU 0 (df aj))))
   (am (aS nd (bZ (ah 0) (bX ar) (bX ar)))
   (am (gC (aF (cF hu) (aI cE (ah 1) ar) ar) (b8 (aS nd (aI bI (ah 2) (bS (HK T) M (aU 1 (df (ac (aI pr ar (ay cN T.n4 cG (aU 2 aj))) aj))))))) fL)
   (am (xL ["_law_k","_law_cells"] nd (pE T.n8 (ay cN T.n4 cG (aU 2 aj))) gl (bS (Jq T) M (ac (bS (HK T) M (ac (bj (ah 1) (ah 0)) (aU 0 (df aj)))) (aU 0 aj))))
   (am (aS nd (bc (Ji T) M))
   (am (xf [1,3] (nj (dW (dS (df (ac (aI cE (aI jA (ah 1) ar) ar) aj)))) (vN 5 nd) dH (b8 (xf [3] (tE (iR T.n8 (ay cN T.n4 cG (aU 3 aj))) (vN 6 nd) dH (Eo 7 8 1 nd (bc (HJ T) M) (bc (Js T) M) (bW (ce (bc (HM T) M))) (bd eN) (aF (cF hu) (aT 8) aw) ar (b8 (bE (bW (ce (bS (HM T) M (ac (bc (HJ T) M) (aU 8 aj))))) eN))))))))
   (bd eN))))))))
end
end Lw
end
namespace PySem.W.Fast
def tw7520104616422791186:=()
def tw15634067632010317166:=()
def tw4535695814424631959:=()
def tw8396481652931195024:=()
def tw2842523608325071074:=()
def tw2775820766680888129:=()
def tw3420374461201683163:=()
def tw18008931445052596345:=()
def tw14771719028309679370:=()
def tw7716749245658534055:=()
def tw1184097432110688419:=()
def tw8130869557640407996:=()
def tw5601164890204717229:=()
def tw6314756223067027969:=()
def tw13618216644685281018:=()
def tw13893909877626621899:=()
def tw15982418124317262175:=()
def tw8243083266100192164:=()
def tw17648952835826449390:=()
def tw13079200100358012475:=()
def tw15638190155258942142:=()
def tw12086078557843589949:=()
def tw1512001627032153218:=()
def tw423212797965183493:=()
def tw5892006325435436801:=()
def tw66276452082309111:=()
def tw478726427451877442:=()
def tw3474931606358819926:=()
def tw11162163623222005016:=()
def tw9781181012272708542:=()
def tw13945945295031825948:=()
def tw17442555678369511848:=()
def tw10388470323736587856:=()
def tw1912467842104497635:=()
def tw6405980868007923921:=()
def tw15406857281159242608:=()
def tw1030624335905476144:=()
def tw15724885464698665123:=()
def tw4461244927848733432:=()
def tw6459079397886899809:=()
def tw10346849450208333063:=()
def tw1285272195124887298:=()
def tw11246573840548577493:=()
def tw14244550226535845900:=()
def tw18443632335362293990:=()
def tw17323372261701931759:=()
def tw2319235388324582946:=()
def tw71114508742453828:=()
def tw12765482982645105556:=()
def tw4306213842248092571:=()
def tw11974947383632536121:=()
def tw16324583218366728431:=()
def tw762079904052676109:=()
def tw2916696707978275764:=()
def tw16838139614776872110:=()
def tw14183279535731444246:=()
def tw8381995409382968024:=()
def tw7409857393918700103:=()
def tw4300981051455152497:=()
def tw13774197356833871345:=()
def tw5992917778358640059:=()
def tw15881168110580888290:=()
def tw12173646667866093812:=()
def tw7776867285580387020:=()
def tw17839935216075830194:=()
def tw6308754220206094165:=()
def tw8534433589252139963:=()
def tw5268280357892185476:=()
def tw16509249039667073153:=()
def tw14329706285349069852:=()
def tw17333554685419389766:=()
def tw17425494107426730288:=()
def tw2293987250155416374:=()
def tw3609925547233872182:=()
def tw15160887792007876654:=()
def tw2927242316354056359:=()
def tw18052367127509294407:=()
def tw8521003379789636678:=()
def tw13708948516881692255:=()
def tw44816086361775678:=()
def tw13322391830829713780:=()
def tw17978986779416141106:=()
def tw3437815736356255273:=()
def tw2123787649077862665:=()
def tw16884790677918070318:=()
def tw16954282303558766047:=()
def tw316262814703715578:=()
def tw11320405842649895125:=()
def tw15756801953137498958:=()
end PySem.W.Fast
open PySem PySem.W PyProof.Rows
set_option maxRecDepth 100000 in
set_option maxHeartbeats 0 in
theorem PySem.Challenge.cw_sealchain_k39_words_put_together_holds : PySem.Challenge.rw_sealchain_k39_words_put_together.Holds := by
 w_on; o_law; k_head; (case hw => w_witness2)
 k_fill
 refine' DL.walkD (l := PySem.Challenge.rw_sealchain_k39_words_put_together) (k := 10) (x := ("_law_script" : PySem.Str)) (f := Lw.F_law) (L := [(("in_order" : PySem.Str), ?t0), (("has_seal" : PySem.Str), ?t1), (("is_first_death" : PySem.Str), ?t2), (("bases_by" : PySem.Str), ?t3)]) rfl rfl ⟨rfl, by decide, by decide⟩ (fun w h Y => PySem.W.kIn_of Y) ?T ?D ?F Lw.law_true
 case T =>
  intro w
  refine' DL.tabs_fit ?h0 ?h1 ?h2 ?h3 ?ap ?nt
  (case h0 => refine' DL.tab_no ?a; (case a => k_is))
  (case h1 => refine' DL.tab_no ?a; (case a => k_is))
  (case h2 => refine' DL.tab_no ?a; (case a => k_is))
  (case h3 => refine' DL.tab_no ?a; (case a => k_is))
  (case ap => decide)
  (case nt => kernel_rfl)
 case D => kernel_rfl
 case F =>
  intro w mg fa h KX G hmg
  refine' Lw.head ⟨⟨h, KX, G⟩, ?d0, ?d1, ?d2, ?d3, ?d4, ?d5, ?d6, ?d7, ?d8, ?d9, ?d10, ?d11, ?d12, ?d13, ?d14, ?d15, ?d16, ?d17, ?d18, ?d19, ?d20, ?d21, ?d22, ?d23, ?d24, ?d25, ?d26, ?d27, ?d28, ?d29, ?d30, ?d31, ?d32, ?d33, ?d34, ?d35, ?d36, ?d37, ?d38, ?d39, PySem.W.mg_none_of KX G ?z0, PySem.W.mg_none_of KX G ?z1, PySem.W.mg_none_of KX G ?z2, PySem.W.mg_none_of KX G ?z3, PySem.W.mg_none_of KX G ?z4, PySem.W.mg_none_of KX G ?z5, PySem.W.mg_none_of KX G ?z6, PySem.W.mg_none_of KX G ?z7, PySem.W.mg_none_of KX G ?z8, PySem.W.mg_none_of KX G ?z9, PySem.W.mg_none_of KX G ?z10, PySem.W.mg_none_of KX G ?z11, PySem.W.mg_none_of KX G ?z12, PySem.W.mg_none_of KX G ?z13, PySem.W.mg_none_of KX G ?z14, DL.kc_of KX G ?k0, DL.kc_of KX G ?k1, DL.kc_of KX G ?k2, DL.kc_of KX G ?k3, DL.kc_of KX G ?k4, DL.kc_of KX G ?k5, DL.kc_of KX G ?k6, DL.kc_of KX G ?k7, DL.kd_of KX G ?k8, DL.kc_of KX G ?k9, DL.kc_of KX G ?k10⟩ hmg
  iterate 40 (refine' DL.def_mk ?a ?l ?c ?k; (case a => k_is); (case l => k_is); (case c => k_is); (case k => k_is))
  (case z0 => k_is)
  (case z1 => k_is)
  (case z2 => k_is)
  (case z3 => k_is)
  (case z4 => k_is)
  (case z5 => k_is)
  (case z6 => k_is)
  (case z7 => k_is)
  (case z8 => k_is)
  (case z9 => k_is)
  (case z10 => k_is)
  (case z11 => k_is)
  (case z12 => k_is)
  (case z13 => k_is)
  (case z14 => k_is)
  (case k0 => refine' DL.const_int ?e; (case e => k_is))
  (case k1 => refine' DL.const_int ?e; (case e => k_is))
  (case k2 => refine' DL.const_int ?e; (case e => k_is))
  (case k3 => refine' DL.const_int ?e; (case e => k_is))
  (case k4 => refine' DL.const_int ?e; (case e => k_is))
  (case k5 => refine' DL.const_int ?e; (case e => k_is))
  (case k6 => refine' DL.const_int ?e; (case e => k_is))
  (case k7 => refine' DL.const_tup ?e ?l ?v; (case e => k_is); (case l => k_is); (case v => decide +kernel))
  (case k8 => refine' DL.const_dict ?e ?l ?r ?s; (case e => k_is); (case l => k_is); (case r => refine' (DL.CRows.tup rfl ?l0 ?f0 (DL.CRows.tup rfl ?l1 ?f1 (DL.CRows.tup rfl ?l2 ?f2 (DL.CRows.tup rfl ?l3 ?f3 (DL.CRows.tup rfl ?l4 ?f4 (DL.CRows.tup rfl ?l5 ?f5 (DL.CRows.tup rfl ?l6 ?f6 (DL.CRows.tup rfl ?l7 ?f7 (DL.CRows.tup rfl ?l8 ?f8 (DL.CRows.tup rfl ?l9 ?f9 (DL.CRows.tup rfl ?l10 ?f10 (DL.CRows.tup rfl ?l11 ?f11 DL.CRows.nil)))))))))))); (case l0 => k_is); (case f0 => decide +kernel); (case l1 => k_is); (case f1 => decide +kernel); (case l2 => k_is); (case f2 => decide +kernel); (case l3 => k_is); (case f3 => decide +kernel); (case l4 => k_is); (case f4 => decide +kernel); (case l5 => k_is); (case f5 => decide +kernel); (case l6 => k_is); (case f6 => decide +kernel); (case l7 => k_is); (case f7 => decide +kernel); (case l8 => k_is); (case f8 => decide +kernel); (case l9 => k_is); (case f9 => decide +kernel); (case l10 => k_is); (case f10 => decide +kernel); (case l11 => k_is); (case f11 => decide +kernel)); (case s => decide +kernel))
  (case k9 => refine' DL.const_tup ?e ?l ?v; (case e => k_is); (case l => k_is); (case v => decide +kernel))
  (case k10 => refine' DL.const_tup ?e ?l ?v; (case e => k_is); (case l => k_is); (case v => decide +kernel))

