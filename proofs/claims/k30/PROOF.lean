import PyProof.Rows.All
import Wide.All
import OpenK.AllK
import Wide.FinOn
import Lean
import PyProof.EqAt
import PyProof.EqKinds
import PyProof.TupleCall
import PyProof.AttrMissHeap
import PySem.Challenge.RW_sealchain_k30_lists_that_are_chains
set_option Elab.async false
set_option linter.all false
set_option maxRecDepth 100000
set_option bootstrap.genMatcherCode false
set_option compiler.extract_closed false
set_option maxHeartbeats 40000000
def mY {α:Type _}{a:α}(l:List α){k:List α}(h:a∈k):a∈l++k:=List.mem_append_right l h
def mZ {α:Type _}(b:α){a:α}{l:List α}(h:a∈l):a∈b::l:=List.mem_cons_of_mem b h
def mX {α:Type _}{a:α}{l:List α}:a∈a::l:=List.mem_cons_self
def oX {α G:Type _}{o:Option α}{f:α->Option G}{b:G}(h:o.bind f=some b):∃a,o=some a/\f a=some b:=Option.bind_eq_some_iff.mp h
def oY {α G:Type _}{f:α->G}{o:Option α}{b:G}(h:o.map f=some b):∃a,o=some a/\f a=b:=Option.map_eq_some_iff.mp h
def wX:=@PySem.wpAny_bind
def wY:=@PySem.wpAny_pure
def vZ:=@PySem.Heap.get?_push_of_some
def vY:=@PySem.Heap.get?_push_size
def vX:=@PySem.Heap.lt_size
def vW:=@PySem.Heap.SameBut.update
def vV {α:Type _}{l:List α}{i:Nat}{a:α}(h:l[i]? = some a):∃h:i<l.length,l[i]=a:=List.getElem?_eq_some_iff.mp h
def vU {α:Type _}{l:List α}{i:Nat}(h:i<l.length):l[i]? = some l[i]:=List.getElem?_eq_getElem h
def vT (n:Nat):n<=n:=Nat.le_refl n
def vS {a b:Nat}(h:a<b):a≠b:=Nat.ne_of_lt h
def vR {n m k:Nat}:n<=m->m<=k->n<=k:=Nat.le_trans
def vQ {n m k:Nat}:n<m->m<=k->n<k:=Nat.lt_of_lt_of_le
def vP {α:Type _}{a b:α}{l:List α}(h:b∈a::l):b=a∨b∈l:=List.mem_cons.mp h
def vO {α G:Type _}{b:G}{f:α->G}{l:List α}(h:b∈l.map f):∃a,a∈l/\f a=b:=List.mem_map.mp h
def vN {α:Type _}{a:α}{p:α->Bool}{l:List α}(h:a∈l.filter p):a∈l/\p a=true:=List.mem_filter.mp h
def vM {α:Type _}(p:α->Bool)(l:List α):(l.filter p).length<=l.length:=List.length_filter_le p l
def vL {α:Type _}{l:List α}{i:Nat}{a:α}(h:l[i]? = some a):a∈l:=List.mem_of_getElem? h
def vK {α:Type _}{a b:α}(h:some a=some b):a=b:=Option.some.inj h
def vJ {α G:Type _}(a:α)(f:α->Option G):(some a).bind f=f a:=rfl
def vI {α M:Type _}{G:List α}(f:α->M):(G.map f).length=G.length:=List.length_map f
def vH {α:Type _}{l:List α}:l.toArray.size=l.length:=rfl
def vG {α:Type _}{xs:Array α}:xs.toList.length=xs.size:=rfl
def vF {α:Type _}{l:List α}{i:Nat}{a:α}:l.getD i a=l[i]?.getD a:=List.getD_eq_getElem?_getD
def vE {α:Type _}{a:α}{G:List α}:(a::G).length=G.length+1:=rfl
def vC (a b:Bool):((a && b)=true)=(a=true/\b=true):=Bool.and_eq_true a b
def vB {α:Type _}{i j:Nat}{a:α}{l:List α}(h:i≠j):(l.set i a)[j]? = l[j]?:=List.getElem?_set_ne h
def vA {α G:Type _}{f:α->G}{l:List α}{i:Nat}:(l.map f)[i]? = Option.map f l[i]?:=List.getElem?_map
def uZ {α:Type _}{G bs:List α}:(G++bs).length=G.length+bs.length:=List.length_append
def uY {α G:Type _}{f:α->G}{a:α}{l:List α}:(a::l).map f=f a::l.map f:=rfl
def uX:false≠true:=Bool.false_ne_true
def uW {α M:Type _}{f:α->M}{l G:List α}:(l++G).map f=l.map f++G.map f:=List.map_append
def uV:(false=true)=False:=Bool.false_eq_true
def uU {α:Type _}{x:Option α}(h:x.isSome=true):∃a,x=some a:=Option.isSome_iff_exists.mp h
def uT {α:Type _}{a b:α}(h:a∈[b]):a=b:=List.mem_singleton.mp h
def uS {α G:Type _}{b:G}{f:α->G}{l:List α}(h:∃a,a∈l/\f a=b):b∈l.map f:=List.mem_map.mpr h
def uR {α:Type _}{l:List α}{p:α->Bool}(h:l.all p=true):∀x∈l,p x=true:=List.all_eq_true.mp h
def uQ {α:Type _}(G:List α):G++[]=G:=List.append_nil G
def uP {α G M:Type _}{g:G->M}{f:α->G}{l:List α}:(l.map f).map g=l.map (g ∘ f):=List.map_map
def uO {α G:Type _}{x:α}{xs:List α}{f:α->List G}:(x::xs).flatMap f=f x++xs.flatMap f:=List.flatMap_cons
def uN (n:Nat):0<=n:=Nat.zero_le n
def sv {p:Prop}[Decidable p](h:p):decide p=true:=decide_eq_true h
def MO {p:Prop}[Decidable p](h:¬p):decide p=false:=decide_eq_false h
def OH {p:Prop}[Decidable p](h:decide p=true):p:=of_decide_eq_true h
noncomputable section
open PySem.W (Frag kia_one fnOf nsIn mg_of)
open List (mem_filter mem_range mem_append mem_append_left mem_filterMap nodup_cons of_mem_zip length_take getElem?_replicate getElem?_append_left take_sublist length_replicate length_drop length_set all_cons any_cons reverse_cons replicate_succ flatten_cons append_assoc foldl_cons length_singleton nil_append map_nil find?_cons length_nil nodup_nil lookup_cons not_mem_nil all_map length_range getElem_range mem_singleton lookup_cons_self getElem_mem nodup_append foldl_append take_of_length_le take_add_one mem_cons getElem?_eq_none ext_getElem? not_lt le_trans le_antisymm pairwise_cons lt_irrefl lt_trans nil_perm filter_cons cons_lt_cons_iff cons_append zip_cons_cons getD_cons_succ getElem?_zip_eq_some mem_iff_getElem? length_zip zipWith_cons_cons take_length length_reverse getElem?_drop all_eq_true all_nil length_zipIdx zip_map' filter_sublist pairwise_map flatMap_nil filter_cons_of_pos filter_cons_of_neg filter_append map_id any_eq_true filter_filter)
open Nat (le_of_lt ne_of_gt le_of_eq lt_succ_self le_succ_of_le le_succ lt_of_le_of_lt lt_succ_of_lt le_add_right)
open Bool (beq_eq_decide_eq eq_false_iff not_eq_true or_eq_true)
open Int (toNat_natCast le_refl)
open Array (toList_push getElem?_toList getD_eq_getD_getElem? getElem?_eq_getElem toList_inj)
open Option (getD_none isSome_map toList_some map_some)
open PySem.F (slot_tuple_add entry_tuple_add args_tuple_add_2 slot_dict_get entry_dict_get plainAttrs_dict slot_tuple_iterator_next plain_set_new called_set slot_set_iter slot_tuple_lt slot_tuple_gt slot_list_getattribute)
abbrev QV:=PySem.Value->PySem.Shared->Prop
abbrev AO:=List (PySem.Addr×PySem.Obj)
abbrev SV:=PySem.Str->Option PySem.Value
abbrev LU:=List PySem.Value
abbrev AV:=Array PySem.Value
abbrev LS:=List PySem.Str
abbrev QD:=List PySem.Expr
abbrev LN:=List Nat
abbrev LI:=List Int
abbrev OI:=Option Int
namespace L2
open PySem PySem.Spec PyProof.Rows
abbrev eC:=Sum Int Str
noncomputable def sw:eC->Value->Bool
 |.inl k,v=>Value.isInt k v
 |.inr x,v=>Value.isStrOf x v
noncomputable def Qk (w:World):eC->Int
 |.inl k=>hashInt k
 |.inr x=>hashStr w x
theorem cJ:∀ {k:eC}{v:Value},sw k v=true->(∃i t,k=Sum.inl i/\v=Value.int i t)∨(∃x t,k=Sum.inr x/\v=Value.str x t)
 |.inl i,v,h=>by
  obtain⟨t,e⟩:=Value.isInt_shape (k:=i) (v:=v) h;exact .inl ⟨i,t,rfl,e⟩
 |.inr x,v,h=>by
  obtain⟨t,e⟩:=Value.isStrOf_shape (x:=x) (v:=v) h;exact .inr ⟨x,t,rfl,e⟩
def Ce (i:Int)(t:Tok):sw (.inl i) (.int i t)=true:=by simp[sw,Value.isInt]
def Cf (x:Str)(t:Tok):sw (.inr x) (.str x t)=true:=by simp[sw,Value.isStrOf]
def Kt (a b:Int):decide ((Sum.inl a:eC)=Sum.inl b)=(a == b):=by
 by_cases e:a=b
 ·subst e;simp
 ·have h:¬(Sum.inl a:eC)=Sum.inl b:=λq=>e (Sum.inl.inj q);rw[MO h];exact(beq_eq_false_iff_ne.mpr e).symm
def Ku (a b:Str):decide ((Sum.inr a:eC)=Sum.inr b)=decide (a=b):=by
 by_cases e:a=b
 ·subst e;simp
 ·have h:¬(Sum.inr a:eC)=Sum.inr b:=λq=>e (Sum.inr.inj q);rw[MO h,MO e]
def Kv (a:Int)(b:Str):decide ((Sum.inl a:eC)=Sum.inr b)=false:=MO (λq=>nomatch q)
def Kw (a:Str)(b:Int):decide ((Sum.inr a:eC)=Sum.inl b)=false:=MO (λq=>nomatch q)
def cu (prog:Program)(w:World):PySem.KeyKind prog w eC where
 is:=sw
 hash:=Qk w
 inj:=λv a b ha hb=>by
  rcases cJ ha with⟨i,t,rfl,rfl⟩|⟨x,t,rfl,rfl⟩
  ·rcases cJ hb with⟨j,u,rfl,e⟩|⟨y,u,rfl,e⟩
   ·injection e with G _;rw[G]
   ·exact nomatch e
  ·rcases cJ hb with⟨j,u,rfl,e⟩|⟨y,u,rfl,e⟩
   ·exact nomatch e
   ·injection e with G _;rw[G]
 byValue:=λk v h=>by
  rcases cJ h with⟨i,t,rfl,rfl⟩|⟨x,t,rfl,rfl⟩<;>rfl
 pyHash:=λhv h=>by
  rcases cJ hv with⟨i,t,rfl,rfl⟩|⟨x,t,rfl,rfl⟩
  ·exact wpAny_pyHash_int h
  ·exact wpAny_pyHash_str h
 eqBool:=λhu hv h=>by
  rcases cJ hu with⟨i,t,rfl,rfl⟩|⟨x,t,rfl,rfl⟩
  ·rcases cJ hv with⟨j,u,rfl,rfl⟩|⟨y,u,rfl,rfl⟩
   ·rw[Kt]at h;exact wpAny_eqBool_int h
   ·rw[Kv]at h;exact SeqAt.EqAt.int_str i t y u _ _ _ _ h
  ·rcases cJ hv with⟨j,u,rfl,rfl⟩|⟨y,u,rfl,rfl⟩
   ·rw[Kw]at h;exact SeqAt.EqAt.str_int x t j u _ _ _ _ h
   ·rw[Ku]at h;exact wpAny_eqBool_str h
 «strs»:=λk x t v h=>by
  rcases cJ h with⟨i,u,rfl,e⟩|⟨y,u,rfl,e⟩
  ·exact nomatch e
  ·injection e with G _;subst G;cases v<;>rfl
def wM (prog:Program)(w:World)(i:Int)(t:Tok):(cu prog w).is (.inl i) (.int i t)=true:=Ce i t
def wN (prog:Program)(w:World)(x:Str)(t:Tok):(cu prog w).is (.inr x) (.str x t)=true:=Cf x t
inductive V where
 |non|bl (b:Bool)|int (i:Int)|str (x:Str)|byt (b:Array UInt8)|flt (b:UInt64)|ref (a:Addr)|ty (n:String)
 deriving DecidableEq
def aY:V->Value->Prop
 |.non,u=>u=Value.none
 |.bl b,u=>u=Value.bool b
 |.int i,u=>∃t,u=Value.int i t
 |.str x,u=>∃t,u=Value.str x t
 |.byt b,u=>∃t,u=Value.bytes b t
 |.flt b,u=>∃t,u=Value.float b t
 |.ref a,u=>u=Value.ref a
 |.ty n,u=>u=Value.type n
abbrev ba:List V->LU->Prop:=Paired aY
def ba.length (r:ba xs us):xs.length=us.length:=Paired.length r
theorem ba.get:∀ {xs:List V}{us:LU}{i:Nat}{x:V},ba xs us->xs[i]? = some x->∃u,us[i]? = some u/\aY x u
 |_,_,_,_,.nil,e=>by simp at e
 |_,_,0,_,.cons r _,e=>by simp at e;subst e;exact⟨_,rfl,r⟩
 |_,_,i+1,x,.cons _ t,e=>by
  obtain⟨u,h1,h2⟩:=ba.get (i:=i) (x:=x) t (by simpa using e);exact⟨u,by simpa using h1,h2⟩
theorem ba.set (r:aY x u):∀ {xs:List V}{us:LU}(i:Nat),ba xs us->ba (xs.set i x) (us.set i u)
 |_,_,_,.nil=>.nil
 |_,_,0,.cons _ t=>.cons r t
 |_,_,i+1,.cons q t=>.cons q (ba.set r i t)
theorem ba.append:∀ {xs ys:List V}{us G:LU},ba xs us->ba ys G->ba (xs++ys) (us++G)
 |_,_,_,_,.nil,s=>s
 |_,_,_,_,.cons r t,s=>.cons r (ba.append t s)
theorem ba.take:∀ {xs:List V}{us:LU}(n:Nat),ba xs us->ba (xs.take n) (us.take n)
 |_,_,0,_=>.nil
 |_,_,_+1,.nil=>.nil
 |_,_,n+1,.cons r t=>.cons r (ba.take n t)
theorem ba.drop:∀ {xs:List V}{us:LU}(n:Nat),ba xs us->ba (xs.drop n) (us.drop n)
 |_,_,0,r=>r
 |_,_,_+1,.nil=>.nil
 |_,_,n+1,.cons _ t=>ba.drop n t
def ba.none_of:∀ {xs:List V}{us:LU}{i:Nat},ba xs us->xs[i]? = none->us[i]? = none:=λ{xs us i} r e=>by
 have h1:=r.length;have h2:xs.length<=i:=List.getElem?_eq_none_iff.mp e;exact List.getElem?_eq_none_iff.mpr (by omega)
def lb:Option V->Option Value->Prop
 |some v,some u=>aY v u
 |none,none=>True
 |_,_=>False
def KV {κ:Type}:List (κ×V)->List (κ×Value)->Prop:=Paired λ(p:κ×V) (q:κ×Value)=>p.1=q.1/\aY p.2 q.2
noncomputable def kV:eC->V
 |.inl i=>.int i
 |.inr x=>.str x
inductive HO where
  |lst (xs:List V)
  |tup (xs:List V)
  |dK (aN:List (eC×V)) (ob:Obj)|dT (aN:List (List eC×V))
  |set (S:Int->Bool) (n:Nat)
  |ins (C dx:Addr) (fs:List (Str×V))
  |own (x:Addr)
  |xd (fs:List (Str×V))
  |met (f x:Addr)
  |rng (lo hi:Int)
  |frz (o:Obj) (u:HO)
  |tbl (q:Str)
  |ext (φ:Heap->Prop)
abbrev Hp:=Addr->Option HO
noncomputable def upd (H:Hp)(a:Addr)(o:HO):Hp:=λb=>if b=a then some o else H b
def aC:upd H a o a=some o:=by unfold upd;rw[if_pos rfl]
def aI (h:b≠a):upd H a o b=H b:=by unfold upd;rw[if_neg h]
def G4:upd (upd H a o) a u=upd H a u:=by
 funext b;unfold upd;split<;>rfl
def Na {H:Hp}{a b:Addr}{o u:HO}(h:H a=some o)(h':H b=some u)(d:o≠u):a≠b:=by
 intro e;subst e;rw[h]at h';exact d (vK h')
def bf {H:Hp}{a b:Addr}{o:HO}(h:H a=some o)(h':H b=none):a≠b:=by
 intro e;subst e;rw[h]at h';cases h'
section
variable (P:Program) (w:World)
def bT (H:Hp)(h:Heap)(a:Addr):HO->Prop
 |.lst xs=>xs.length<=sizeLine/\∃(its:LU)(n:Nat),ba xs its/\h.get? a=some { cls:=.type "list",data:=.seq its.toArray n }
 |.tup xs=>xs.length<=sizeLine/\∃its:LU,ba xs its/\IsTup h a its.toArray
 |.dK aN ob=>h.get? a=some ob/\aN.length<=sizeLine/\(a == sysModules)=false/\∃vs,KV aN vs/\h.DictOf (cu P w) a vs
 |.dT aN=>aN.length<=sizeLine/\(a == sysModules)=false/\∃xs:List (List eC×Addr×Value),
   Paired (λ(p:List eC×V) (q:List eC×Addr×Value)=>p.1=q.1/\H q.2.1=some (.tup (p.1.map kV))/\aY p.2 q.2.2) aN xs /\
   ∃o es O,h.get? a=some o/\o.ExactDict/\o.data=.dict es O/\es.toList=xs.map (entryOfKey (tupleKind (cu P w)))/\(xs.map (·.1)).Nodup
 |.set S n=>h.SetOf (intKind P w) a S n
 |.ins C dx fs=>H dx=some (.own a)/\fs.length<=1000/\dx≠a/\h.get? a=some (PySem.W.instObj C dx) /\
   ∃mA,h.Ns1 dx mA/\(∀f,lb (fs.lookup f) (mA f))/\PySem.Within mA (fs.map (·.1))
 |.own _=>∃o,h.get? a=some o
 |.xd fs=>∃mA,h.Ns1 a mA/\∀f,lb (fs.lookup f) (mA f)
 |.rng lo hi=>∃t u v,h.get? a=some { cls:=.type "range",data:=.fields #[.int lo t,.int hi u,.int 1 v] }
 |.frz o u=>h.get? a=some o/\bT H h a u
 |.tbl q=>∃ps:AV,h.get? a=some { cls:=.none,data:=.fields ps }/\TriplesOk ps.toList/\∀G M,codeAmong G ps.toList=some M->∃(c:Addr)(oc:Obj)(u:HO)(vs:AV)(t:Tok),M=.ref c/\H c=some (.frz oc u)/\oc.data=.fields vs/\vs[1]? = some (.str q t)
 |.met f x=>h.get? a=some (PySem.W.methodObj (.ref f) (.ref x))
 |.ext φ=>φ h/\(∃o,h.get? a=some o)/\∀h1 h2:Heap,φ h1->(∀o,h1.get? a=some o->h2.get? a=some o)->φ h2
def lf (H:Hp)(h:Heap):Prop:=∀a o,H a=some o->bT P w H h a o
end
section
variable {P:Program}{w:World}{H H':Hp}{h h':Heap}{a:Addr}{o:HO}
def bT.lt (x:bT P w H h a o):a<h.objs.size:=by
 cases o with
 |lst xs=>obtain⟨_,_,_,_,e⟩:=x;exact vX e
 |tup xs=>obtain⟨_,_,_,p⟩:=x;exact p.lt
 |dK aN ob=>exact vX (And.left x)
 |dT aN=>obtain⟨_,_,_,_,o,_,_,e,_⟩:=x;exact vX e
 |set S n=>obtain⟨o,_,_,_,e,_⟩:=x;exact vX e
 |ins C dx fs=>obtain⟨_,_,_,e,_⟩:=x;exact vX e
 |own y=>obtain⟨_,e⟩:=x;exact vX e
 |xd fs=>obtain⟨_,⟨_,_,_,e,_⟩,_⟩:=x;exact vX e
 |rng lo hi=>obtain⟨_,_,_,e⟩:=x;exact vX e
 |frz ob u=>obtain⟨e,_⟩:=x;exact vX e
 |tbl q=>obtain⟨_,e,_⟩:=x;exact vX e
 |met f y=>exact vX (show h.get? a=some _ from x)
 |ext φ=>obtain⟨_,⟨_,e⟩,_⟩:=x;exact vX e
theorem Paired.mapP {α T:Type}{F G:α->T->Prop}:∀ {M:List α}{O:List T},Paired F M O->(∀a b,F a b->G a b)->Paired G M O
 |_,_,.nil,_=>.nil
 |_,_,.cons r t,f=>.cons (f _ _ r) (Paired.mapP t f)
def bT.stay (x:bT P w H h a o)(k:∀b u,(b=a∨H b=some (.own a))->h.get? b=some u->h'.get? b=some u)
  (ho:∀b,H b=some (.own a)->H' b=some (.own a)) (O:∀b xs,H b=some (.tup xs)->H' b=some (.tup xs)) (hf:∀b o u,H b=some (.frz o u)->H' b=some (.frz o u)):bT P w H' h' a o:=by
 induction o with
 |lst xs=>obtain⟨z,its,n,r,e⟩:=x;exact⟨z,its,n,r,k _ _ (.inl rfl) e⟩
 |tup xs=>obtain⟨z,its,r,ob,e,c⟩:=x;exact⟨z,its,r,ob,k _ _ (.inl rfl) e,c⟩
 |dK aN T=>obtain⟨g,z,y,vs,r,ob,es,G,e,c⟩:=x;exact⟨k _ _ (.inl rfl) g,z,y,vs,r,ob,es,G,k _ _ (.inl rfl) e,c⟩
 |dT aN=>
  obtain⟨z,y,xs,r,ob,es,G,e,c⟩:=x;exact⟨z,y,xs,Paired.mapP r λp q z=>⟨z.1,O _ _ z.2.1,z.2.2⟩,ob,es,G,k _ _ (.inl rfl) e,c⟩
 |set S n=>obtain⟨ob,es,G,t,e,c⟩:=x;exact⟨ob,es,G,t,k _ _ (.inl rfl) e,c⟩
 |ins C dx fs=>
  obtain⟨d,z,ne,e,mA,⟨od,es,G,e2,c⟩,r⟩:=x;exact⟨ho _ d,z,ne,k _ _ (.inl rfl) e,mA,⟨od,es,G,k _ _ (.inr d) e2,c⟩,r⟩
 |own y=>obtain⟨ob,e⟩:=x;exact⟨ob,k _ _ (.inl rfl) e⟩
 |xd fs=>obtain⟨mA,⟨od,es,G,e,c⟩,r⟩:=x;exact⟨mA,⟨od,es,G,k _ _ (.inl rfl) e,c⟩,r⟩
 |rng lo hi=>obtain⟨t,u,v,e⟩:=x;exact⟨t,u,v,k _ _ (.inl rfl) e⟩
 |frz ob u U=>obtain⟨e,q⟩:=x;exact⟨k _ _ (.inl rfl) e,U q⟩
 |tbl q=>obtain⟨ps,e,t,c⟩:=x;exact⟨ps,k a _ (.inl rfl) e,t,λM cv z=>let ⟨d,oc,u,vs,tk,z1,z2,z3⟩:=c M cv z;⟨d,oc,u,vs,tk,z1,hf _ _ _ z2,z3⟩⟩
 |met f y=>
  have e:h.get? a=some (PySem.W.methodObj (.ref f) (.ref y)):=x;show h'.get? a=some (PySem.W.methodObj (.ref f) (.ref y));exact k a _ (.inl rfl) e
 |ext φ=>obtain⟨p,⟨o,e⟩,st⟩:=x;exact⟨st _ _ p λo q=>k _ _ (.inl rfl) q,⟨o,k _ _ (.inl rfl) e⟩,st⟩
def lf.lt (x:lf P w H h)(e:H a=some o):a<h.objs.size:=(x a o e).lt
def lf.fresh (x:lf P w H h)(e:h.objs.size<=a):H a=none:=by
 cases q:H a with
 |none=>rfl
 |some u=>exact absurd (vQ (x.lt q) e) (Nat.lt_irrefl _)
def lf.kept (x:lf P w H h)(k:∀b u,h.get? b=some u->h'.get? b=some u):lf P w H h':=λa o e=>
 (x a o e).stay (λb u _ q=>k b u q) (λ_ q=>q) (λ_ _ q=>q) λ_ _ _ q=>q
def lf.laid (x:lf P w H h)(k:∀b u,h.get? b=some u->h'.get? b=some u)(hp:h.objs.size<=a)(new:bT P w (upd H a o) h' a o):lf P w (upd H a o) h':=λb u e=>by
 have hn:=x.fresh hp;by_cases hb:b=a
 ·subst hb;rw[aC]at e;cases e;exact new
 ·rw[aI hb]at e;exact(x b u e).stay (λc v _ q=>k c v q) (λc q=>by rw[aI (bf q hn)];exact q) (λc xs q=>by rw[aI (bf q hn)];exact q) λc o xs q=>by rw[aI (bf q hn)];exact q
end
def Rd (H:Hp)(a:Addr)(u:HO):Prop:=H a=some u∨∃o,H a=some (.frz o u)
def Rd.of (h:H a=some u):Rd H a u:=.inl h
def Rd.ok (r:Rd H a u)(x:lf P w H h):bT P w H h a u:=by
 rcases r with r|⟨o,r⟩
 ·exact x a u r
 ·obtain⟨_,q⟩:=x a _ r;exact q
def Nb:Option HO->Prop
 |some (.lst _)=>True
 |some (.dK _ _)=>True
 |some (.dT _)=>True
 |some (.set _ _)=>True
 |some (.ins _ _ _)=>True
 |some (.ext _)=>True
 |_=>False
section
variable {P:Program}{w:World}{H:Hp}{h h':Heap}{x e:Addr}{o':HO}
def lf.write (ok:lf P w H h)(O:Nb (H x))(he:e=x∨H e=some (.own x))(k:∀b u,b≠e->h.get? b=some u->h'.get? b=some u)(U:∃u,h'.get? e=some u)
  (new:bT P w (upd H x o') h' x o'):lf P w (upd H x o') h':=λb u q=>by
 have M:∀c y,H c=some (.own y)->c≠x:=λc y r z=>by subst z;rw[r]at O;exact O
 have T:∀c xs,H c=some (.tup xs)->c≠x:=λc xs r z=>by subst z;rw[r]at O;exact O
 by_cases hb:b=x
 ·subst hb;rw[aC]at q;cases q;exact new
 ·rw[aI hb]at q;by_cases G:b=e
  ·have q':H b=some (.own x):=by
    rcases he with z|z
    ·exact absurd (G.trans z) hb
    ·rw[G];exact z
   rw[q]at q';cases q';obtain⟨v,hv⟩:=U;exact⟨v,by rw[G];exact hv⟩
  ·refine(ok b u q).stay (λc v hc r=>k c v ?_ r) (λc r=>by rw[aI (M c b r)];exact r) (λc xs r=>by rw[aI (T c xs r)];exact r) λc o xs r=>by rw[aI (λz=>by subst z;rw[r]at O;exact O)];exact r
   rcases hc with rfl|hc
   ·exact G
   ·rintro rfl;rcases he with z|z
    ·exact M c b hc z
    ·rw[hc]at z;cases z;exact hb rfl
end
structure Un (fs ex:List Addr)(H H':Hp)(h h':Heap):Prop where
 keep:∀b o,h.get? b=some o->H b=none->b∉fs->b∉ex->h'.get? b=some o
 slot:∀b o,h.get? b=some o->H b=none->b∈fs->b∉ex->∃sl,h'.get? b=some { o with slots:=sl }
 free:∀b o,h.get? b=some o->H b=none->b∉ex->H' b=none
 there:∀b o,h.get? b=some o->b∉ex->∃o',h'.get? b=some o'
 tups:∀b xs,H b=some (.tup xs)->H' b=some (.tup xs)
 frzs:∀b o u,H b=some (.frz o u)->H' b=some (.frz o u)
 tbls:∀b q,H b=some (.tbl q)->H' b=some (.tbl q)
section
variable {fs Vo ex XH:List Addr}{H H1 H2:Hp}{h h1 h2 h':Heap}{a x e:Addr}{o:HO}
def Un.any (u:Un fs ex H H1 h h1)(q:h.get? b=some ob)(n:H b=none)(hx:b∉ex):∃sl,h1.get? b=some { ob with slots:=sl }:=by
 by_cases hb:b∈fs
 ·exact u.slot b ob q n hb hx
 ·exact⟨ob.slots,u.keep b ob q n hb hx⟩
def Un.trans (a:Un fs ex H H1 h h1)(b:Un fs ex H1 H2 h1 h2):Un fs ex H H2 h h2 where
 keep:=λc ob q n hc hx=>b.keep c ob (a.keep c ob q n hc hx) (a.free c ob q n hx) hc hx
 slot:=λc ob q n hc hx=>by
  obtain⟨sl,G⟩:=a.slot c ob q n hc hx;obtain⟨M,e2⟩:=b.slot c _ G (a.free c ob q n hx) hc hx;exact⟨M,e2⟩
 free:=λc ob q n hx=>by
  obtain⟨o',G⟩:=a.there c ob q hx;exact b.free c o' G (a.free c ob q n hx) hx
 there:=λc ob q hx=>by
  obtain⟨o',G⟩:=a.there c ob q hx;exact b.there c o' G hx
 tups:=λc xs q=>b.tups c xs (a.tups c xs q)
 frzs:=λc ob xs q=>b.frzs c ob xs (a.frzs c ob xs q)
 tbls:=λc ps q=>b.tbls c ps (a.tbls c ps q)
def Un.kept (k:∀b u,h.get? b=some u->h'.get? b=some u):Un fs ex H H h h' :=
 ⟨λb ob q _ _ _=>k b ob q,λb ob q _ _ _=>⟨ob.slots,k b ob q⟩,λ_ _ _ n _=>n,λb ob q _=>⟨ob,k b ob q⟩,λ_ _ q=>q,λ_ _ _ q=>q,λ_ _ q=>q⟩
def Un.refl:Un fs ex H H h h:=Un.kept λ_ _ q=>q
def Un.laid (k:∀b u,h.get? b=some u->h'.get? b=some u)(hp:h.objs.size<=a)(hn:H a=none):Un fs ex H (upd H a o) h h' where
 keep:=λb u q _ _ _=>k b u q
 slot:=λb u q _ _ _=>⟨u.slots,k b u q⟩
 free:=λb u q n _=>by rw[aI (vS (vQ (vX q) hp))];exact n
 there:=λb u q _=>⟨u,k b u q⟩
 tups:=λb xs q=>by rw[aI (bf q hn)];exact q
 frzs:=λb u xs q=>by rw[aI (bf q hn)];exact q
 tbls:=λb ps q=>by rw[aI (bf q hn)];exact q
def Un.write (M:Nb (H x))(he:e=x∨H e=some (.own x))(k:∀b u,b≠e->h.get? b=some u->h'.get? b=some u)(O:∃u,h'.get? e=some u):Un fs ex H (upd H x o) h h':=by
 have hx:∀b,H b=none->b≠x:=λb n z=>by subst z;rw[n]at M;exact M
 have hb:∀b,H b=none->b≠e:=λb n z=>by
  subst z;rcases he with r|r
  ·exact hx b n r
  ·rw[n]at r;cases r
 have hm:∀b u,H b=some u->¬Nb (some u)->b≠x:=λb u q nm z=>by subst z;rw[q]at M;exact nm M
 refine⟨λb u q n _ _=>k b u (hb b n) q,λb u q n _ _=>⟨u.slots,k b u (hb b n) q⟩,λb u q n _=>by rw[aI (hx b n)];exact n,λb u q _=>?_,
  λb xs q=>by rw[aI (hm b _ q λz=>z)];exact q,λb u xs q=>by rw[aI (hm b _ q λz=>z)];exact q,λb ps q=>by rw[aI (hm b _ q λz=>z)];exact q⟩
 by_cases G:b=e
 ·subst G;exact O
 ·exact⟨u,k b u G q⟩
end
noncomputable def Py (h:Heap)(H:Hp):List Addr:=(List.range h.objs.size).filter λa=>(H a).isSome
def wO (h:Heap)(H:Hp):Heap:=PySem.W.hideAll h (Py h H)
def Cg (h:Heap)(H:Hp):(wO h H).objs.size=h.objs.size:=PySem.W.hideAll_size _ _
def pw (e:h.get? b=some o)(n:H b=none):(wO h H).get? b=some o :=
 PySem.W.hideAll_get _ e λhm=>by
  have q:(H b).isSome=true:=(vN hm).2;rw[n]at q;simp at q
def G5 (e:(wO h H).get? b=some o):h.get? b=some o/\H b=none:=by
 have G:h.get? b=some o:=PySem.W.of_hideAll (Py h H) e;refine⟨G,?_⟩;cases q:H b with
 |none=>rfl
 |some x=>
  have hm:b∈Py h H:=mem_filter.mpr ⟨mem_range.mpr (vX G),by simp[q]⟩;have z:(wO h H).get? b=none:=PySem.W.hideAll_none (Py h H) hm;rw[z]at e;cases e
noncomputable def G6 (g h:Heap)(L:Addr):AO:=(List.range h.objs.size).filterMap λa=>if a=L∨(g.get? a).isSome=true then none else (h.get? a).map λo=>(a,o)
def aE (g h:Heap)(L d:Addr):AO:=(G6 g h L).filter λp=>decide (p.1≠d)
structure Mod (K:Frag)(mg:Str->Option Value)(base:Heap):Prop where
 kin:K.In base
 glob:base.Ns mainGlobals mg
 blt:∃mb,base.Ns builtinsNs mb/\∀x:Str,x ≠ "__name__"->mb x=bootBuiltins x
 nolimit:base.NoLimit
 bmain:∃bm ob,mg "__builtins__" = some (.ref bm)/\bm≠builtinsNs/\base.get? bm=some ob/\ob.cls=.type "module"/\ob.dict=some builtinsNs/\ob.data=.plain
structure Cx where
 prog:Program
 w:World
 K:Frag
 mg:Str->Option Value
 base:Heap
 A:Around
 N:List Str
 s₀:Shared
 H₀:Hp
 env:Env
 outer:List Env
 stack:List Env
 ex:List Addr
 fn:Str->Bool
 calm:Bool
 pn:List (Addr×Obj)
 xe:Value->Shared->Prop
noncomputable def D0 (l:List Env):List Addr:=l.filterMap (·.frame)
abbrev Cx.fs (X:Cx):List Addr:=D0 X.outer
def Kx (sc:Scope)(x:Str):Prop:=sc.names.lookup x=some .local∨sc.names.lookup x=some .cell∨sc.names.lookup x=some .free
def D9 (sc:Scope)(x:Str):Prop:=sc.names.lookup x=some .local∨sc.names.lookup x=some .cell
def Ql (env:Env)(h:Heap)(m:SV)(x:Str)(u:Value):Prop :=
 (env.kindOf x=some .local/\m x=some u)∨((env.kindOf x=some .cell∨env.kindOf x=some .free)/\∃c,env.cells.lookup x=some c/\h.IsCell c (some u))
abbrev wq {α:Type}(X:Cx):Sem α->(α->Shared->Prop)->(Value->Shared->Prop)->Shared->Prop:=wpAny (model X.prog X.w) X.A
structure Cx.Ok (X:Cx):Prop where
 mod:Mod X.K X.mg X.base
 kind:X.env.scope.kind=.function
 glob:X.env.globals=mainGlobals
 blt:X.env.builtins=builtinsNs
 above:X.s₀.heap.objs.size<=X.env.locals
 inj:∀x y c,X.env.cells.lookup x=some c->X.env.cells.lookup y=some c->x=y
 has:∀x,(X.env.kindOf x=some .cell∨X.env.kindOf x=some .free)->∃c,X.env.cells.lookup x=some c
 cab:∀x c,X.fn x=true->X.env.cells.lookup x=some c->X.s₀.heap.objs.size<=c
 hd:X.calm=true->X.A.handled=none
 frames:X.A.frames=some X.stack
 stk:X.stack=X.outer∨(X.stack=X.env::X.outer/\X.env.frame=some X.env.locals)
 exf:∀b∈X.ex,b≠X.env.locals/\∀x c,X.env.cells.lookup x=some c->c≠b
 bs:∀b o,X.base.get? b=some o->X.s₀.heap.get? b=some o/\X.H₀ b=none
 bsz:X.base.objs.size<=X.s₀.heap.objs.size
 noex:∀b o,X.base.get? b=some o->b∉X.ex
 exfs:∀b∈X.ex,b∉X.fs
 funs:X.s₀.heap.FunFrames X.base X.outer
 frf:∀b∈X.fs,X.H₀ b=none
structure Inv (X:Cx)(ae:List (Addr×Obj))(σ:List (Option V))(H:Hp)(s:Shared):Prop where
 ok:X.Ok
 os:s.os=X.s₀.os
 bare:AllBare s.gens
 base:Un X.fs X.ex X.H₀ H X.s₀.heap s.heap
 loc:∃m,s.heap.Ns X.env.locals m/\∀(i:Nat)(x:Str)(v:V),X.N[i]? = some x->σ[i]? = some (some v)->Kx X.env.scope x->∃u,aY v u/\Ql X.env s.heap m x u
 cell:∀x c,X.env.cells.lookup x=some c->∃v,s.heap.IsCell c v
 free:H X.env.locals=none
 freeC:∀x c,X.env.cells.lookup x=some c->H c=none
 pin:∀p∈X.pn++ae,s.heap.get? p.1=some p.2/\H p.1=none/\p.1≠X.env.locals/\p.1∉X.fs/\∀v,p.2.data≠.cell v
 hok:lf X.prog X.w H s.heap
 len:σ.length=X.N.length
section
variable {X:Cx}{ae:AO}{σ:List (Option V)}{H H':Hp}{s:Shared}{h':Heap}
def Cx.Ok.nofr (ok:X.Ok)(e:X.base.get? b=some o):b∉X.fs:=λhb=>by
 have:=(ok.funs.mem hb).1;rw[e]at this;cases this
def Inv.bs (I:Inv X ae σ H s):∀b o,X.base.get? b=some o->s.heap.get? b=some o/\H b=none:=λb o e=>
 ⟨I.base.keep b o (I.ok.bs b o e).1 (I.ok.bs b o e).2 (I.ok.nofr e) (I.ok.noex b o e),I.base.free b o (I.ok.bs b o e).1 (I.ok.bs b o e).2 (I.ok.noex b o e)⟩
def Inv.bk (I:Inv X ae σ H s):∀b o,X.base.get? b=some o->s.heap.get? b=some o:=λb o e=>(I.bs b o e).1
def Inv.mod (I:Inv X ae σ H s):Mod X.K X.mg X.base:=I.ok.mod
def Inv.kIn (I:Inv X ae σ H s):X.K.In s.heap:=I.ok.mod.kin.keeps I.bk
def Inv.nolimit (I:Inv X ae σ H s):s.heap.NoLimit:=I.ok.mod.nolimit.keeps I.bk
def Inv.lt (I:Inv X ae σ H s):X.env.locals<s.heap.objs.size:=let ⟨_,hn,_⟩:=I.loc;hn.lt
def Inv.sz (I:Inv X ae σ H s):X.s₀.heap.objs.size<=s.heap.objs.size:=vR I.ok.above (le_of_lt I.lt)
def Inv.nofs (I:Inv X ae σ H s)(h:s.heap.objs.size<=a):a∉X.fs:=λhb=>by
 obtain⟨_,o,ho,_⟩:=I.ok.funs.mem hb;exact absurd (vQ (vX ho) (vR I.sz h)) (Nat.lt_irrefl _)
def Inv.cne (I:Inv X ae σ H s):∀x c,X.env.cells.lookup x=some c->c≠X.env.locals:=λx c e z=>by
 obtain⟨v,o,ho,hd⟩:=I.cell x c e;obtain⟨m,⟨o',es,O,G,M,_⟩,_⟩:=I.loc;rw[z,G]at ho;cases ho;rw[M]at hd;cases hd
def Inv.funs (I:Inv X ae σ H s):s.heap.FunFrames X.base X.outer:=by
 have all:∀(l:List Env),(∀b∈D0 l,b∈X.fs)->X.s₀.heap.FunFrames X.base l->s.heap.FunFrames X.base l:=by
  intro l;induction l with
  |nil=>intro _ _;trivial
  |cons env r M=>
   intro hs hl;obtain⟨hk,⟨L,o,hf,hn,ho,hd⟩,hr⟩:=hl;have G:L∈X.fs:=hs L (by unfold D0;rw[List.filterMap_cons,hf];exact mX);obtain⟨sl,e⟩:=I.base.slot L o ho (I.ok.frf L G) G λz=>I.ok.exfs L z G;exact⟨hk,⟨L,_,hf,hn,e,hd⟩,M (λb hb=>hs b (by unfold D0;rw[List.filterMap_cons,hf];exact mZ _ hb)) hr⟩
 exact all X.outer (λ_ hb=>hb) I.ok.funs
def Inv.stack (I:Inv X ae σ H s):s.heap.FunFrames X.base X.stack:=by
 rcases I.ok.stk with e|⟨e,hf⟩
 ·rw[e];exact I.funs
 ·rw[e];obtain⟨m,hn,_⟩:=I.loc;refine .cons (by rw[I.ok.kind];decide) hf hn ?_ I.funs;exact Heap.get?_none_of_le (vR I.ok.bsz I.ok.above)
def Inv.stkSub (I:Inv X ae σ H s):∀b∈D0 X.stack,b∈X.env.locals::X.fs:=λb hb=>by
 rcases I.ok.stk with e|⟨e,hf⟩
 ·rw[e]at hb;exact mZ _ hb
 ·rw[e]at hb;unfold D0 at hb;rw[List.filterMap_cons,hf]at hb;exact hb
def Inv.stkFree (I:Inv X ae σ H s):∀b∈D0 X.stack,H b=none:=λb hb=>by
 rcases vP (I.stkSub b hb)with e|hb
 ·rw[e];exact I.free
 ·obtain⟨_,o,ho,_⟩:=I.ok.funs.mem hb;exact I.base.free b o ho (I.ok.frf b hb) λz=>I.ok.exfs b z hb
def Inv.step {g':Array GenState}{t':Nat}{d':Drawn}{ch:List Addr}(I:Inv X ae σ H s)
  (G:∀b∈ch,(b∈X.ex∨X.s₀.heap.objs.size<=b)/\b≠X.env.locals/\(∀x c,X.env.cells.lookup x=some c->c≠b)/\∀p∈X.pn++ae,p.1≠b)
  (keep:∀b o,b≠X.env.locals->b∉X.fs->b∉ch->s.heap.get? b=some o->H b=none->h'.get? b=some o)
  (slot:∀b o,b≠X.env.locals->b∈X.fs->b∉ch->s.heap.get? b=some o->H b=none->∃sl,h'.get? b=some { o with slots:=sl }) (free:∀b o,b∉ch->s.heap.get? b=some o->H b=none->H' b=none)
  (there:∀b o,b∉ch->s.heap.get? b=some o->∃o',h'.get? b=some o')
  (tups:∀b xs,H b=some (.tup xs)->H' b=some (.tup xs)) (frzs:∀b o u,H b=some (.frz o u)->H' b=some (.frz o u)) (tbls:∀b q,H b=some (.tbl q)->H' b=some (.tbl q))
  (ns:∀m,s.heap.Ns X.env.locals m->h'.Ns X.env.locals m) (hok:lf X.prog X.w H' h') (hg:AllBare g'):
  Inv X ae σ H' { s with heap:=h',gens:=g',drawn:=d',toks:=t' }:=by
 have Tc:∀b o,X.s₀.heap.get? b=some o->b≠X.env.locals:=λb o e=>vS (vQ (vX e) I.ok.above);have T:∀b o,X.s₀.heap.get? b=some o->b∉X.ex->b∉ch:=λb o e hx hb=>by
  rcases (G b hb).1 with z|z
  ·exact hx z
  ·exact absurd (vQ (vX e) z) (Nat.lt_irrefl _)
 have M:∀x c,X.env.cells.lookup x=some c->∀v,s.heap.IsCell c v->h'.IsCell c v:=λx c e v ⟨o,ho,hd⟩=>by
  have O:c∉ch:=λz=>(G c z).2.2.1 x c e rfl;by_cases hc:c∈X.fs
  ·obtain⟨sl,q⟩:=slot c o (I.cne x c e) hc O ho (I.freeC x c e);exact⟨_,q,hd⟩
  ·exact⟨o,keep c o (I.cne x c e) hc O ho (I.freeC x c e),hd⟩
 refine⟨I.ok,I.os,hg,⟨λb o e n hb hx=>?_,λb o e n hb hx=>?_,λb o e n hx=>?_,λb o e hx=>?_,λb xs e=>tups b xs (I.base.tups b xs e),λb o xs e=>frzs b o xs (I.base.frzs b o xs e),λb ps e=>?_⟩,?_,λx c e=>?_,?_,λx c e=>?_,λp hp=>?_,hok,I.len⟩
 ·exact keep b o (Tc b o e) hb (T b o e hx) (I.base.keep b o e n hb hx) (I.base.free b o e n hx)
 ·obtain⟨sl,U⟩:=I.base.slot b o e n hb hx;obtain⟨Vp,e2⟩:=slot b _ (Tc b o e) hb (T b o e hx) U (I.base.free b o e n hx);exact⟨Vp,e2⟩
 ·obtain⟨o',U⟩:=I.base.there b o e hx;exact free b o' (T b o e hx) U (I.base.free b o e n hx)
 ·obtain⟨o',U⟩:=I.base.there b o e hx;exact there b o' (T b o e hx) U
 ·exact tbls b _ (I.base.tbls b ps e)
 ·obtain⟨m,hn,hl⟩:=I.loc;refine⟨m,ns m hn,λi x v U e2 e3=>?_⟩;obtain⟨u,r,l⟩:=hl i x v U e2 e3;refine⟨u,r,?_⟩;rcases l with l|⟨k,c,e,z⟩
  ·exact .inl l
  ·exact .inr ⟨k,c,e,M x c e _ z⟩
 ·obtain⟨v,z⟩:=I.cell x c e;exact⟨v,M x c e v z⟩
 ·obtain⟨m,⟨o,_,_,ho,_⟩,_⟩:=I.loc;exact free _ o (λz=>(G _ z).2.1 rfl) ho I.free
 ·obtain⟨v,o,ho,hd⟩:=I.cell x c e;exact free c o (λz=>(G c z).2.2.1 x c e rfl) ho (I.freeC x c e)
 ·obtain⟨e,n,ne,nf,d⟩:=I.pin p hp;have O:p.1∉ch:=λz=>(G p.1 z).2.2.2 p hp rfl;exact⟨keep p.1 p.2 ne nf O e n,free p.1 p.2 O e n,ne,nf,d⟩
def Inv.un {t':Nat}(I:Inv X ae σ H s)(u:Un X.fs [] H H' s.heap h')(hok:lf X.prog X.w H' h'):Inv X ae σ H' { s with heap:=h',toks:=t' }:=by
 obtain⟨m,⟨o,es,ep,ho,r⟩,_⟩:=id I.loc;obtain⟨sl,T⟩:=u.any ho I.free (by simp);exact I.step (g':=s.gens) (d':=s.drawn) (ch:=[]) (λ_ z=>nomatch z) (λb o _ hb _ e n=>u.keep b o e n hb (by simp)) (λb o _ hb _ e n=>u.slot b o e n hb (by simp)) (λb o _ e n=>u.free b o e n (by simp)) (λb o _ e=>u.there b o e (by simp)) u.tups u.frzs u.tbls (λm' hm=>by
  obtain⟨o',M,O,G,U⟩:=hm;rw[ho]at G;cases G;exact⟨_,M,O,T,U⟩) hok I.bare
def Inv.call {g':Array GenState}{t':Nat}{d':Drawn}{ch:List Addr}(I:Inv X ae σ H s)(u:Un (D0 X.stack) ch H H' s.heap h')(hok:lf X.prog X.w H' h')(hg:AllBare g')
  (G:∀b∈ch,(b∈X.ex∨X.s₀.heap.objs.size<=b)/\b≠X.env.locals/\(∀x c,X.env.cells.lookup x=some c->c≠b)/\∀p∈X.pn++ae,p.1≠b):
  Inv X ae σ H' { s with heap:=h',gens:=g',drawn:=d',toks:=t' }:=by
 obtain⟨m,⟨o,es,ep,ho,r⟩,_⟩:=id I.loc;obtain⟨sl,O⟩:=u.any ho I.free λz=>(G _ z).2.1 rfl;exact I.step (ch:=ch) G (λb o O hb hc e n=>u.keep b o e n (λz=>(vP (I.stkSub b z)).elim O hb) hc) (λb o _ _ hc e n=>u.any e n hc) (λb o hc e n=>u.free b o e n hc) (λb o hc e=>u.there b o e hc) u.tups u.frzs u.tbls (λm' hm=>by
  obtain⟨o',T,U,M,r'⟩:=hm;rw[ho]at M;cases M;exact⟨_,T,U,O,r'⟩) hok hg
def Inv.turned {t':Nat}{it:Addr}(I:Inv X ae σ H s)(k:∀b o,b≠it->s.heap.get? b=some o->h'.get? b=some o)(hn:H it=none)(M:it≠X.env.locals)
  (h1:it∈X.ex∨X.s₀.heap.objs.size<=it) (h2:∀x c,X.env.cells.lookup x=some c->c≠it) (h3:∀p∈X.pn++ae,p.1≠it):Inv X ae σ H { s with heap:=h',toks:=t' }:=by
 have G:∀b u,H b=some u->b≠it:=λb u e z=>by rw[z,hn]at e;cases e
 refine I.step (g':=s.gens) (d':=s.drawn) (ch:=[it]) (λb hb=>?_) (λb o _ _ hc e _=>k b o (λz=>hc (by simp[z])) e) (λb o _ _ hc e _=>⟨o.slots,k b o (λz=>hc (by simp[z])) e⟩) (λ_ _ _ _ n=>n)
  (λb o hc e=>⟨o,k b o (λz=>hc (by simp[z])) e⟩) (λ_ _ e=>e) (λ_ _ _ e=>e) (λ_ _ e=>e) (λm hm=>?_) (λb u e=>?_) I.bare
 ·have e:b=it:=by simpa using hb
  subst e;exact⟨h1,M,h2,h3⟩
 ·obtain⟨o,es,O,ho,r⟩:=hm;exact⟨o,es,O,k _ o (Ne.symm M) ho,r⟩
 ·refine(I.hok b u e).stay (λc v hc q=>k c v ?_ q) (λ_ q=>q) (λ_ _ q=>q) λ_ _ _ q=>q;rcases hc with z|z
  ·rw[z];exact G b u e
  ·exact G c _ z
def Inv.tok (I:Inv X ae σ H s)(t:Nat):Inv X ae σ H { s with toks:=t }:=I.un (h':=s.heap) (t':=t) Un.refl I.hok
def Inv.kept (I:Inv X ae σ H s)(k:∀b u,s.heap.get? b=some u->h'.get? b=some u):Inv X ae σ H { s with heap:=h',toks:=t' }:=I.un (Un.kept k) (I.hok.kept k)
def Inv.laid (I:Inv X ae σ H s)(k:∀b u,s.heap.get? b=some u->h'.get? b=some u)(hp:s.heap.objs.size<=a)(new:bT X.prog X.w (upd H a o) h' a o):
  Inv X ae σ (upd H a o) { s with heap:=h',toks:=t' }:=I.un (Un.laid k hp (I.hok.fresh hp)) (I.hok.laid k hp new)
def Inv.write (I:Inv X ae σ H s)(M:Nb (H x))(he:e=x∨H e=some (.own x))(k:∀b u,b≠e->s.heap.get? b=some u->h'.get? b=some u)(G:∃u,h'.get? e=some u)
  (new:bT X.prog X.w (upd H x o) h' x o):Inv X ae σ (upd H x o) { s with heap:=h',toks:=t' }:=I.un (Un.write M he k G) (I.hok.write M he k G new)
def Inv.pins_of (I:Inv X ae σ H s)(h:∀p∈pins',s.heap.get? p.1=some p.2/\H p.1=none/\p.1≠X.env.locals/\p.1∉X.fs/\∀v,p.2.data≠.cell v):Inv X pins' σ H s :=
 ⟨I.ok,I.os,I.bare,I.base,I.loc,I.cell,I.free,I.freeC,λp hp=>(mem_append.mp hp).elim (λz=>I.pin p (mem_append_left _ z)) (h p),I.hok,I.len⟩
def wP {N:LS}(G:N.Nodup){i j:Nat}{x:Str}(a:N[i]? = some x)(b:N[j]? = some x):i=j:=by
 obtain⟨h1,M⟩:=vV a;obtain⟨h2,e2⟩:=vV b;exact(List.getElem_inj G).mp (M.trans e2.symm)
def sx {M:Model}{A:Around}{E:QV}{i:Nat}{x:Str}{v:V}{u:Value}{Q:Unit->Shared->Prop}(I:Inv X ae σ H s)(hN:X.N.Nodup)(hi:X.N[i]? = some x)(hx:D9 X.env.scope x)(r:aY v u)
  (h:∀s',Inv X ae (σ.set i (some v)) H s'->(∃a,Heap.SameBut a s.heap s'.heap/\(a=X.env.locals∨X.env.cells.lookup x=some a))->Q () s') (hf:X.fn x=true∨X.env.scope.names.lookup x=some .local:=by first|exact .inl rfl|exact .inr rfl|assumption):wpAny M A (storeName X.env x u) Q E s:=by
 obtain⟨m,hn,hl⟩:=id I.loc;have QZ:(X.env.scope.kind == .class || (X.env.scope.kind == .module && X.env.locals != X.env.globals))=false:=by rw[I.ok.kind];rfl
 have U:i<σ.length:=by rw[I.len];exact(vV hi).1
 have cne:=I.cne;have G:∀ {a:Addr}{h':Heap},(∃o,s.heap.get? a=some o/\H a=none)->Heap.SameBut a s.heap h'->lf X.prog X.w H h':=λ{a h'} ha hs b ob e=>by
  obtain⟨_,_,T⟩:=ha;refine(I.hok b ob e).stay (λc w' hc q=>(hs.2 c ?_).trans q) (λ_ q=>q) (λ_ _ q=>q) λ_ _ _ q=>q;rintro rfl;rcases hc with rfl|hc
  ·rw[T]at e;cases e
  ·rw[T]at hc;cases hc
 rcases hx with hk|hk
 ·refine wpAny_storeName_local hk hn (λh' Ra hs=>?_) QZ;obtain⟨oL,_,_,OF,_⟩:=id hn;refine h _ ⟨I.ok,I.os,I.bare,⟨λb o e n hb hx=>?_,λb o e n hb hx=>?_,I.base.free,λb o e hx=>?_,I.base.tups,I.base.frzs,I.base.tbls⟩,⟨_,Ra,λj y v' O e2 e3=>?_⟩,λy c e=>?_,I.free,I.freeC,λp hp=>?_,G ⟨oL,OF,I.free⟩ hs,by simpa using I.len⟩ ⟨_,hs,.inl rfl⟩
  ·exact(hs.2 b (vS (vQ (vX e) I.ok.above))).trans (I.base.keep b o e n hb hx)
  ·obtain⟨sl,O⟩:=I.base.slot b o e n hb hx;exact⟨sl,(hs.2 b (vS (vQ (vX e) I.ok.above))).trans O⟩
  ·obtain⟨o',O⟩:=I.base.there b o e hx;exact⟨o',(hs.2 b (vS (vQ (vX e) I.ok.above))).trans O⟩
  ·by_cases hj:j=i
   ·subst hj;rw[hi]at O;cases O;rw[List.getElem?_set_self U]at e2;cases e2
    exact⟨u,r,.inl ⟨hk,by simp⟩⟩
   ·rw[vB (Ne.symm hj)]at e2;obtain⟨u',r',q⟩:=hl j y v' O e2 e3;refine⟨u',r',?_⟩;rcases q with⟨k,e⟩|⟨k,c,e,z⟩
    ·refine .inl ⟨k,?_⟩;have:y≠x:=λe=>hj (wP hN O (e ▸ hi));simp[this,e]
    ·exact .inr ⟨k,c,e,z.sameBut hs (cne y c e)⟩
  ·obtain⟨w',z⟩:=I.cell y c e;exact⟨w',z.sameBut hs (cne y c e)⟩
  ·obtain⟨e,n,ne,nf,d⟩:=I.pin p hp;exact⟨(hs.2 p.1 ne).trans e,n,ne,nf,d⟩
 ·have Rb:X.fn x=true:=by
   rcases hf with z|z
   ·exact z
   ·rw[z]at hk;cases hk
  obtain⟨c,hc⟩:=I.ok.has x (.inl hk);obtain⟨w',z⟩:=I.cell x c hc;refine wpAny_storeName_cell I.ok.kind hk hc z (λh' OG hs=>?_);obtain⟨oc,Jl,Rc⟩:=id z;refine h { s with heap:=h' } ⟨I.ok,I.os,I.bare,⟨λb o e n hb hx=>?_,λb o e n hb hx=>?_,I.base.free,λb o e hx=>?_,I.base.tups,I.base.frzs,I.base.tbls⟩,⟨m,hn.sameBut hs (Ne.symm (cne x c hc)),λj y v' O e2 e3=>?_⟩,λy c' e=>?_,I.free,I.freeC,λp hp=>?_,G ⟨oc,Jl,I.freeC x c hc⟩ hs,by simpa using I.len⟩ ⟨c,hs,.inr hc⟩
  ·exact(hs.2 b (vS (vQ (vX e) (I.ok.cab x c Rb hc)))).trans (I.base.keep b o e n hb hx)
  ·obtain⟨sl,O⟩:=I.base.slot b o e n hb hx;exact⟨sl,(hs.2 b (vS (vQ (vX e) (I.ok.cab x c Rb hc)))).trans O⟩
  ·obtain⟨o',O⟩:=I.base.there b o e hx;exact⟨o',(hs.2 b (vS (vQ (vX e) (I.ok.cab x c Rb hc)))).trans O⟩
  ·by_cases hj:j=i
   ·subst hj;rw[hi]at O;cases O;rw[List.getElem?_set_self U]at e2;cases e2
    exact⟨u,r,.inr ⟨.inl hk,c,hc,OG⟩⟩
   ·rw[vB (Ne.symm hj)]at e2;obtain⟨u',r',q⟩:=hl j y v' O e2 e3;refine⟨u',r',?_⟩;rcases q with q|⟨k,c',e,z'⟩
    ·exact .inl q
    ·refine .inr ⟨k,c',e,z'.sameBut hs ?_⟩;rintro rfl;exact hj (wP hN O (I.ok.inj _ _ _ e hc ▸ hi))
  ·by_cases hcc:c'=c
   ·subst hcc;exact⟨_,OG⟩
   ·obtain⟨w2,z2⟩:=I.cell y c' e;exact⟨w2,z2.sameBut hs hcc⟩
  ·obtain⟨e,n,ne,nf,d⟩:=I.pin p hp;refine⟨(hs.2 p.1 ?_).trans e,n,ne,nf,d⟩;intro q;rw[q,Jl]at e;have q':oc=p.2:=vK e;exact d w' (by rw[←q'];exact Rc)
def wQ {M:Model}{A:Around}{E:QV}{i:Nat}{x:Str}{v:V}{u:Value}{Q:Unit->Shared->Prop}(I:Inv X ae σ H s)(G:X.N.Nodup)(hi:X.N[i]? = some x)(hx:D9 X.env.scope x)(r:aY v u)
  (h:∀s',Inv X ae (σ.set i (some v)) H s'->Q () s') (hf:X.fn x=true∨X.env.scope.names.lookup x=some .local:=by first|exact .inl rfl|exact .inr rfl|assumption):wpAny M A (storeName X.env x u) Q E s :=
 sx I G hi hx r (λs' O _=>h s' O) hf
def Inv.call' (I:Inv X ae σ H s)(ho:s'.os=s.os)(u:Un (D0 X.stack) ch H H' s.heap s'.heap)(hok:lf X.prog X.w H' s'.heap)(M:AllBare s'.gens)
  (G:∀b∈ch,(b∈X.ex∨X.s₀.heap.objs.size<=b)/\b≠X.env.locals/\(∀x c,X.env.cells.lookup x=some c->c≠b)/\∀p∈X.pn++ae,p.1≠b):Inv X ae σ H' s':=by
 obtain⟨h',g',d',t',o'⟩:=s';have e:o'=s.os:=ho;subst e;exact I.call (g':=g') (t':=t') (d':=d') u hok M G
end
abbrev XK:=Value->Option Addr->Hp->Prop
abbrev St:=List (Option V)
abbrev VK:=V->Hp->Prop
abbrev TE:=St->Hp->VK->Prop
abbrev TT:=St->Hp->(Bool->Hp->Prop)->Prop
abbrev TA:=St->Hp->(List V->Hp->Prop)->Prop
structure Ends where
 nx:St->Hp->Prop
 rt:VK
 bk:St->Hp->Prop:=λ_ _=>False
 ct:St->Hp->Prop:=λ_ _=>False
abbrev TS:=Ends->St->Hp->Prop
def EP (X:Cx)(ae:AO)(σ:St)(Q:VK)(u:Value)(s':Shared):Prop:=∃v H',Inv X ae σ H' s'/\aY v u/\Q v H'
def TP (X:Cx)(ae:AO)(σ:St)(Q:Bool->Hp->Prop)(b:Bool)(s':Shared):Prop:=∃H',Inv X ae σ H' s'/\Q b H'
def AP (X:Cx)(ae:AO)(σ:St)(Q:List V->Hp->Prop)(us:LU)(s':Shared):Prop:=∃vs H',Inv X ae σ H' s'/\ba vs us/\Q vs H'
def SP (X:Cx)(ae:AO)(D:Ends)(f:Flow)(s':Shared):Prop :=
 match f with
 |.next=>∃G H',Inv X ae G H' s'/\D.nx G H'
 |.brk=>∃G H',Inv X ae G H' s'/\D.bk G H'
 |.cont=>∃G H',Inv X ae G H' s'/\D.ct G H'
 |.ret u=>∃v G H',Inv X ae G H' s'/\aY v u/\D.rt v H'
def PE (X:Cx)(e:Expr)(t:TE):Prop :=
 ∀(ae:AO)(s:Shared)(σ:St)(H:Hp)(Q:VK),Inv X ae σ H s->t σ H Q->wq X (eval e X.env) (EP X ae σ Q) X.xe s
def PT (X:Cx)(e:Expr)(t:TT):Prop :=
 ∀(ae:AO)(s:Shared)(σ:St)(H:Hp)(Q:Bool->Hp->Prop),Inv X ae σ H s->t σ H Q->wq X (isTrue e X.env (eval e X.env)) (TP X ae σ Q) X.xe s
def PW (X:Cx)(e:Expr)(t:TT):Prop :=
 ∀(G:Sem Value)(ae:AO)(s:Shared)(σ:St)(H:Hp)(Q:Bool->Hp->Prop),Inv X ae σ H s->t σ H Q->wq X (isTrue e X.env G) (TP X ae σ Q) X.xe s
def PW.pt (h:PW X e t):PT X e t:=h _
def PA (X:Cx)(es:QD)(t:TA):Prop :=
 ∀(G:Pos)(ae:AO)(s:Shared)(σ:St)(H:Hp)(Q:List V->Hp->Prop),Inv X ae σ H s->t σ H Q->wq X (spliced (backTo G (starEach es X.env))) (AP X ae σ Q) X.xe s
def PS (X:Cx)(st:Stmt)(t:TS):Prop :=
 ∀(ae:AO)(s:Shared)(σ:St)(H:Hp)(D:Ends),Inv X ae σ H s->t D σ H->wq X (exec st X.env) (SP X ae D) X.xe s
def sy (X:Cx)(st:List Stmt)(t:TS):Prop :=
 ∀(ae:AO)(s:Shared)(σ:St)(H:Hp)(D:Ends),Inv X ae σ H s->t D σ H->wq X (execs st X.env) (SP X ae D) X.xe s
def cn {α:Type}{t:Sem α}{Q G:α->Shared->Prop}{M:Model}{A:Around}{E:QV}{s:Shared}(h:wpAny M A t Q E s)(O:∀a s,Q a s->G a s):wpAny M A t G E s:=wpAny_mono h O λ_ _ x=>x
section
variable {X:Cx}
def oB (i:Nat):TE:=λσ H Q=>∃v,σ[i]? = some (some v)/\Q v H
def tC (v:V):TE:=λ_ H Q=>Q v H
def px (O:X.N[i]? = some x)(hv:Kx X.env.scope x)(hd:(x == ("__debug__" : Str))=false:=by decide)(M:(x == ("__classdict__" : Str))=false:=by decide):PE X (.Name x pos) (oB i):=by
 intro ae s σ H Q I h;obtain⟨v,e,h⟩:=h;obtain⟨m,hn,hl⟩:=I.loc;obtain⟨u,r,l⟩:=hl i x v O e hv;have iB:EP X ae σ Q u s:=⟨v,H,I,r,h⟩;rcases l with⟨hk,hm⟩|⟨hk,c,hc,G⟩
 ·exact wpAny_Name (wpAny_loadName_local I.ok.kind hk hn hm iB) hd
 ·rcases hk with hk|hk
  ·exact wpAny_Name (wpAny_loadName_cell I.ok.kind hk hc G iB) hd
  ·exact wpAny_Name (wpAny_loadName_free I.ok.kind hk hc G iB M) hd
def DA {i j pos}:PE X (.Constant (.int i) j pos) (tC (.int i)):=λ_ _ _ H _ I h=>wpAny_Constant_int ⟨.int i,H,I.tok _,⟨_,rfl⟩,h⟩
def Nc {b j pos}:PE X (.Constant (.bool b) j pos) (tC (.bl b)):=λ_ _ _ H _ I h=>Constant_bool ⟨.bl b,H,I,rfl,h⟩
def Ky {j pos}:PE X (.Constant .none j pos) (tC .non):=λ_ _ _ H _ I h=>Constant_none ⟨.non,H,I,rfl,h⟩
def Kz {x j pos}:PE X (.Constant (.str x) j pos) (tC (.str x)):=λ_ _ _ H _ I h=>Calls.Constant_str ⟨.str x,H,I.tok _,⟨_,rfl⟩,h⟩
def Gl (X:Cx)(x:Str):Prop:=X.env.kindOf x=some .globalImplicit
def ur {E:QV}{ae:AO}{s:Shared}{σ:St}{H:Hp}{x:Str}{u:Value}{G:Pos}{Q:QV}(I:Inv X ae σ H s)(M:Gl X x)(hm:X.mg x=some u)(h:Q u s)
  (hd:(x == ("__debug__" : Str))=false:=by decide):wq X (eval (.Name x G) X.env) Q E s :=
 Calls.Name_function_global I.ok.kind M (Calls.loadGlobal_global (by rw[I.ok.glob];exact I.mod.glob.keeps I.bk) hm h) hd
def gX {E:QV}{ae:AO}{s:Shared}{σ:St}{H:Hp}{x:Str}{u:Value}{G:Pos}{Q:QV}(I:Inv X ae σ H s)(M:Gl X x)(hm:X.mg x=none)(hv:bootBuiltins x=some u)(h:Q u s)
  (hn:x ≠ "__name__":=by decide) (hd:(x == ("__debug__" : Str))=false:=by decide):wq X (eval (.Name x G) X.env) Q E s:=by
 obtain⟨mb,h1,h2⟩:=I.mod.blt;exact Calls.Name_function_global I.ok.kind M (Calls.loadGlobal_builtin (by rw[I.ok.glob];exact I.mod.glob.keeps I.bk) hm (by rw[I.ok.blt];exact h1.keeps I.bk) ((h2 x hn).trans hv) h) hd
def A2 (G:Gl X x)(hm:X.mg x=some u)(r:aY v u)(hd:(x == ("__debug__" : Str))=false:=by decide):PE X (.Name x pos) (tC v) :=
 λ_ _ _ H _ I h=>ur I G hm ⟨v,H,I,r,h⟩ hd
def G7 (G:Gl X x)(hm:X.mg x=none)(hv:bootBuiltins x=some u)(r:aY v u)(hn:x ≠ "__name__":=by decide)(hd:(x == ("__debug__" : Str))=false:=by decide):PE X (.Name x pos) (tC v) :=
 λ_ _ _ H _ I h=>gX I G hm hv ⟨v,H,I,r,h⟩ hn hd
def U0 (G tb:TE)(k:Int->Int->Hp->Prop):St->Hp->Prop:=λσ H=>G σ H λx M=>tb σ M λy H2=>∃i j,x=.int i/\y=.int j/\k i j H2
variable {a b:Expr}{ta tb:TE}{pos:Pos}
def PC (X:Cx)(op:CmpOp)(a b:Expr)(t:TE):Prop :=
 ∀(ae:AO)(s:Shared)(σ:St)(H:Hp)(Q:VK),Inv X ae σ H s->t σ H Q ->
  wq X (eval a X.env) (λv G=>wq X (eval b X.env) (λu M=>wq X (compareOp op v u) (EP X ae σ Q) X.xe M) X.xe G) X.xe s
def iZ (b:Expr){op:CmpOp}(h:op≠.In)(h2:op≠.NotIn):behindInMarks op b=false:=by
 have G:(op == CmpOp.In)=false:=by cases op<;>first|rfl|exact absurd rfl h
 have e2:(op == CmpOp.NotIn)=false:=by cases op<;>first|rfl|exact absurd rfl h2
 cases b<;>simp[behindInMarks,G,e2]
def Qm (p:Int->Int->Bool)(ta tb:TE):TE:=λσ H Q=>U0 ta tb (λi j H2=>Q (.bl (p i j)) H2) σ H
abbrev K0:TE->TE->TE:=Qm λi j=>decide (i<j)
def tB (t:TE):TT:=λσ H Q=>t σ H λx G=>∃c,x=.bl c/\Q c G
def K1 (h:PC X op a b t)(h1:behindInMarks op b=false:=by first|exact iZ _ (by decide) (by decide)|rfl):PE X (.Compare a [op] [b] pos) t:=λae s σ H Q I hw=>wpAny_Compare1 (h ae s σ H Q I hw) h1
def K2 {op:CmpOp}{t:TE}(h:PC X op a b t)(h1:behindInMarks op b=false:=by first|exact iZ _ (by decide) (by decide)|rfl):PT X (.Compare a [op] [b] pos) (tB t):=by
 intro ae s σ H Q I hw;refine wpAny_isTrue_Compare1 (cn (h ae s σ H _ I hw) λv s1 h1=>cn h1 λu s2 h2=>cn h2 λc T ⟨x,G,I1,M,O⟩=>?_) h1;obtain⟨d,rfl,q⟩:=O;cases M
 exact wpAny_truthy_bool ⟨G,I1,q⟩
def K3 {e:Expr}{t:TE}(h:PE X e t)(he:∀G,isTrue e X.env G=(do let v ←G;standAt e.pos;holding [v] (truthy v)):=by intro _;rfl):PT X e (tB t):=by
 intro ae s σ H Q I hw;refine isTrue_plain (cn (h ae s σ H _ I hw) λv s1 ⟨x,M,I1,O,T⟩=>?_) (he _);obtain⟨d,rfl,q⟩:=T;cases O
 exact wpAny_truthy_bool ⟨M,I1,q⟩
variable {tA PB:TT}{aE:QD}
def Nd (t u:TT):TT:=λσ H Q=>t σ H λc G=>if c=true then u σ G Q else Q false G
def Sw (t u:TT):TT:=λσ H Q=>t σ H λc G=>if c=true then Q true G else u σ G Q
def Nf (t:TT):TT:=λσ H Q=>t σ H λc G=>Q (!c) G
def G8 (ha:PT X a tA):PW X (.BoolOp .And [a] pos) tA:=by
 intro G ae s σ H Q I h;refine isTrue_and (cn (ha ae s σ H Q I h) λc s1 e=>?_);cases c with
 |true=>exact isTrue_and_nil e
 |false=>exact e
def K4 (ha:PT X a tA):PW X (.BoolOp .Or [a] pos) tA:=by
 intro G ae s σ H Q I h;refine isTrue_or (cn (ha ae s σ H Q I h) λc s1 e=>?_);cases c with
 |false=>exact isTrue_or_nil e
 |true=>exact e
def K5 (ha:PT X a tA)(hb:PW X (.BoolOp .And (b::aE) pos) PB):PW X (.BoolOp .And (a::b::aE) pos) (Nd tA PB):=by
 intro O ae s σ H Q I h;refine isTrue_and (cn (ha ae s σ H _ I h) λc s1 ⟨G,I1,M⟩=>?_);cases c with
 |true=>exact hb O ae s1 σ G Q I1 M
 |false=>exact⟨G,I1,M⟩
def Ng (ha:PT X a tA)(hb:PW X (.BoolOp .Or (b::aE) pos) PB):PW X (.BoolOp .Or (a::b::aE) pos) (Sw tA PB):=by
 intro O ae s σ H Q I h;refine isTrue_or (cn (ha ae s σ H _ I h) λc s1 ⟨G,I1,M⟩=>?_);cases c with
 |true=>exact⟨G,I1,M⟩
 |false=>exact hb O ae s1 σ G Q I1 M
def K6 (ha:PT X a tA):PT X (.UnaryOp .Not a pos) (Nf tA):=by
 intro ae s σ H Q I h;exact isTrue_not (ha ae s σ H (λc G=>Q (!c) G) I h)
def Nh (ta tb:TE):TE:=λσ H Q=>ta σ H λx G=>∃c,x=.bl c/\if c=true then tb σ G Q else Q (.bl false) G
def Qn (ta tb:TE):TE:=λσ H Q=>ta σ H λx G=>∃c,x=.bl c/\if c=true then Q (.bl true) G else tb σ G Q
def K7 {op}(h:PE X a t):PE X (.BoolOp op [a] pos) t:=λae s σ H Q I hw=>BoolOp_one (h ae s σ H Q I hw)
def K8 (ha:PE X a ta)(hb:PE X (.BoolOp .And (b::aE) pos) tb):PE X (.BoolOp .And (a::b::aE) pos) (Nh ta tb):=by
 intro ae s σ H Q I h;refine BoolOp_and (cn (ha ae s σ H _ I h) λv s1 ⟨x,M,I1,O,G⟩=>?_);obtain⟨c,rfl,G⟩:=G;cases O
 refine wpAny_truthy_bool ?_;cases c with
 |true=>exact hb ae s1 σ M Q I1 G
 |false=>exact⟨.bl false,M,I1,rfl,G⟩
def Ni (ha:PE X a ta)(hb:PE X (.BoolOp .Or (b::aE) pos) tb):PE X (.BoolOp .Or (a::b::aE) pos) (Qn ta tb):=by
 intro ae s σ H Q I h;refine BoolOp_or (cn (ha ae s σ H _ I h) λv s1 ⟨x,M,I1,O,G⟩=>?_);obtain⟨c,rfl,G⟩:=G;cases O
 refine wpAny_truthy_bool ?_;cases c with
 |false=>exact hb ae s1 σ M Q I1 G
 |true=>exact⟨.bl true,M,I1,rfl,G⟩
end
def fT (K:Frag)(H:Hp)(a:Addr)(xs:List V):Prop :=
 Rd H a (.lst xs) ∨
  ∃(o:Obj)(its:AV)(n:Nat),K.lookup a=some o/\o.cls=.type "list"/\o.dict=none/\o.data=.seq its n/\its.size<=sizeLine/\ba xs its.toList
def iY (K:Frag)(H:Hp)(a:Addr)(xs:List V):Prop :=
 Rd H a (.tup xs) ∨
  ∃(o:Obj)(its:AV)(n:Nat),K.lookup a=some o/\o.cls=.type "tuple"/\o.data=.seq its n/\its.size<=sizeLine/\ba xs its.toList
noncomputable def Qo:Value->Option V
 |.none=>some .non
 |.bool b=>some (.bl b)
 |.int i _=>some (.int i)
 |.str x _=>some (.str x)
 |.bytes b _=>some (.byt b)
 |.float b _=>some (.flt b)
 |.ref a=>some (.ref a)
 |.type n=>some (.ty n)
 |_=>none
def aY.abs (r:aY x u):Qo u=some x:=by
 cases x with
 |non=>cases r;rfl
 |bl _=>cases r;rfl
 |int _=>obtain⟨t,rfl⟩:=r;rfl
 |str _=>obtain⟨t,rfl⟩:=r;rfl
 |byt _=>obtain⟨t,rfl⟩:=r;rfl
 |flt _=>obtain⟨t,rfl⟩:=r;rfl
 |ref _=>cases r;rfl
 |ty _=>cases r;rfl
def aY.inj (r:aY x u)(q:aY y u):x=y:=vK (r.abs.symm.trans q.abs)
theorem ba.inj:∀ {xs ys:List V}{us:LU},ba xs us->ba ys us->xs=ys
 |_,_,_,.nil,.nil=>rfl
 |_,_,_,.cons r t,.cons G t'=>by rw[r.inj G,ba.inj t t']
section
variable {X:Cx}{ae:AO}{σ:St}{H:Hp}{s:Shared}{a:Addr}{xs ys:List V}
def fT.of {K:Frag}(h:H a=some (.lst xs)):fT K H a xs:=.inl (.inl h)
def iY.of {K:Frag}(h:H a=some (.tup xs)):iY K H a xs:=.inl (.inl h)
def Inv.list (I:Inv X ae σ H s)(h:fT X.K H a xs):∃its:LU,ba xs its/\PlainL s.heap a its.toArray/\xs.length<=sizeLine:=by
 rcases h with h|⟨o,its,n,hk,hc,hd,hs,hz,r⟩
 ·obtain⟨z,its,n,r,e⟩:=h.ok I.hok;exact⟨its,r,⟨_,n,e,rfl,rfl,rfl⟩,z⟩
 ·refine⟨its.toList,r,⟨o,n,I.kIn a o hk,hc,hd,by simpa using hs⟩,?_⟩;have e:=r.length;simp only[vG]at e;omega
def Inv.tuple (I:Inv X ae σ H s)(h:iY X.K H a xs):∃its:LU,ba xs its/\IsTup s.heap a its.toArray/\xs.length<=sizeLine:=by
 rcases h with h|⟨o,its,n,hk,hc,hs,hz,r⟩
 ·obtain⟨z,its,r,p⟩:=h.ok I.hok;exact⟨its,r,p,z⟩
 ·refine⟨its.toList,r,⟨o,I.kIn a o hk,hc,n,by simpa using hs⟩,?_⟩;have e:=r.length;simp only[vG]at e;omega
def Inv.list_inj (I:Inv X ae σ H s)(h:fT X.K H a xs)(h':fT X.K H a ys):xs=ys:=by
 obtain⟨its,r,⟨o,n,e,_,_,d⟩,_⟩:=I.list h;obtain⟨its',M,⟨o',O,G,_,_,d'⟩,_⟩:=I.list h';rw[e]at G;cases G;rw[d]at d';injection d' with d1 _;have:its=its':=by simpa using congrArg Array.toList d1
 subst this;exact r.inj M
def Inv.tuple_inj (I:Inv X ae σ H s)(h:iY X.K H a xs)(h':iY X.K H a ys):xs=ys:=by
 obtain⟨its,r,⟨o,e,_,n,d⟩,_⟩:=I.tuple h;obtain⟨its',M,⟨o',G,_,O,d'⟩,_⟩:=I.tuple h';rw[e]at G;cases G;rw[d]at d';injection d' with d1 _;have:its=its':=by simpa using congrArg Array.toList d1
 subst this;exact r.inj M
end
noncomputable abbrev Cx.wish (X:Cx)(E:QV):Cx:={ X with xe:=E }
noncomputable abbrev Cx.nox (X:Cx):Cx:=X.wish λ_ _=>False
def Cx.Ok.wish {X:Cx}(ok:X.Ok)(E:QV):(X.wish E).Ok :=
 ⟨ok.mod,ok.kind,ok.glob,ok.blt,ok.above,ok.inj,ok.has,ok.cab,ok.hd,ok.frames,ok.stk,ok.exf,ok.bs,ok.bsz,ok.noex,ok.exfs,ok.funs,ok.frf⟩
def Cx.Ok.unwish {X:Cx}{E:QV}(ok:(X.wish E).Ok):X.Ok :=
 ⟨ok.mod,ok.kind,ok.glob,ok.blt,ok.above,ok.inj,ok.has,ok.cab,ok.hd,ok.frames,ok.stk,ok.exf,ok.bs,ok.bsz,ok.noex,ok.exfs,ok.funs,ok.frf⟩
section
variable {X:Cx}{ae:AO}{σ:St}{H:Hp}{s:Shared}{E:QV}
def Inv.wish (I:Inv X ae σ H s)(E:QV):Inv (X.wish E) ae σ H s:=⟨I.ok.wish E,I.os,I.bare,I.base,I.loc,I.cell,I.free,I.freeC,I.pin,I.hok,I.len⟩
def Inv.unwish (I:Inv (X.wish E) ae σ H s):Inv X ae σ H s:=⟨I.ok.unwish,I.os,I.bare,I.base,I.loc,I.cell,I.free,I.freeC,I.pin,I.hok,I.len⟩
def SP.unwish (h:SP (X.wish E) ae D f s'):SP X ae D f s':=by
 cases f with
 |next=>obtain⟨G,H',I,q⟩:=h;exact⟨G,H',I.unwish,q⟩
 |brk=>obtain⟨G,H',I,q⟩:=h;exact⟨G,H',I.unwish,q⟩
 |cont=>obtain⟨G,H',I,q⟩:=h;exact⟨G,H',I.unwish,q⟩
 |ret u=>obtain⟨v,G,H',I,r,q⟩:=h;exact⟨v,G,H',I.unwish,r,q⟩
def PE.nox (h:PE X.nox e t):PE X e t:=λae s σ H Q I hw=>
 wpAny_mono (h ae s σ H Q (I.wish _) hw) (λ_ _ ⟨v,H',G,r,q⟩=>⟨v,H',G.unwish,r,q⟩) λ_ _ z=>False.elim z
def PT.nox (h:PT X.nox e t):PT X e t:=λae s σ H Q I hw=>
 wpAny_mono (h ae s σ H Q (I.wish _) hw) (λ_ _ ⟨H',G,q⟩=>⟨H',G.unwish,q⟩) λ_ _ z=>False.elim z
def sy.nox {st:List Stmt}{t:TS}(h:sy X.nox st t):sy X st t:=λae s σ H D I hw=>
 wpAny_mono (h ae s σ H D (I.wish _) hw) (λ_ _ q=>q.unwish) λ_ _ z=>False.elim z
end
section
variable {X:Cx}{st:Stmt}{aE:List Stmt}{t u:TS}{e:Expr}{te:TE}{pos:Pos}
def Jw:TS:=λD σ H=>D.nx σ H
def Nj (t u:TS):TS:=λD σ H=>t { D with nx:=u D } σ H
def G9:sy X [] Jw:=λ_ _ σ H _ I h=>wpAny_execs_nil ⟨σ,H,I,h⟩
def DB (h1:PS X st t)(h2:sy X aE u):sy X (st::aE) (Nj t u):=by
 intro ae s σ H D I h;refine wpAny_execs_cons (cn (h1 ae s σ H { D with nx:=u D } I h) λf s1 q=>?_);cases f with
 |next=>
  obtain⟨G,H',M,q⟩:=q;exact h2 ae s1 G H' D M q
 |ret v=>exact q
 |brk=>exact q
 |cont=>exact q
def GA (h1:PS X st t):sy X [st] t:=by
 intro ae s σ H D I h;refine wpAny_execs_cons (cn (h1 ae s σ H D I h) λf s1 q=>?_);cases f with
 |next=>exact wpAny_execs_nil q
 |ret v=>exact q
 |brk=>exact q
 |cont=>exact q
def Nk:TS:=λD σ H=>D.ct σ H
def wR:PS X (.Continue pos) Nk:=λ_ _ σ H _ I h=>wpAny_Continue ⟨σ,H,I,h⟩
def Inv.quiet (I:Inv X ae σ H s):interactive X.env=false:=by simp[interactive,I.ok.kind]
def Nl (te:TE):TS:=λD σ H=>te σ H λ_ G=>D.nx σ G
def A3 (he:PE X e te)(hs:swapsWith e none pos.line X.env=pure false:=by rfl):PS X (.Expr e pos) (Nl te):=by
 intro ae s σ H D I h;exact wpAny_Expr_any (cn (he ae s σ H _ I h) λv s1 ⟨x,G,I1,O,M⟩=>⟨σ,G,I1,M⟩) I.quiet hs
def K9 (te:TE):TS:=λD σ H=>te σ H D.rt
def DC (he:PE X e te):PS X (.Return (some e) pos) (K9 te):=by
 intro ae s σ H D I h;exact wpAny_Return_some (cn (he ae s σ H _ I h) λv s1 ⟨x,G,I1,M,O⟩=>⟨x,σ,G,I1,M,O⟩)
def Nm (c:TT)(t u:TS):TS:=λD σ H=>c σ H λb G=>if b=true then t D σ G else u D σ G
def Nn {c:Expr}{a b:List Stmt}{G:TT}(hc:PT X c G)(ha:sy X a t)(hb:sy X b u):PS X (.If c a b pos) (Nm G t u):=by
 intro ae s σ H D I h;refine wpAny_If (cn (hc ae s σ H _ I h) λd s1 ⟨M,I1,O⟩=>?_);cases d with
 |true=>exact ha ae s1 σ M D I1 O
 |false=>exact hb ae s1 σ M D I1 O
end
abbrev TG:=V->St->Hp->(St->Hp->Prop)->Prop
abbrev KA:=List V->St->Hp->(St->Hp->Prop)->Prop
def PG (X:Cx)(G:Expr)(t:TG):Prop :=
 ∀(ae:AO)(s:Shared)(σ:St)(H:Hp)(v:V)(u:Value)(Q:St->Hp->Prop),Inv X ae σ H s->aY v u->t v σ H Q ->
  wq X (assign G X.env u) (λ_ s'=>∃M H',Inv X ae M H' s'/\Q M H') X.xe s
def Pz (X:Cx)(M:QD)(t:KA):Prop :=
 ∀(ae:AO)(s:Shared)(σ:St)(H:Hp)(vs:List V)(us:LU)(Q:St->Hp->Prop),Inv X ae σ H s->ba vs us->t vs σ H Q ->
  wq X (assignInOrder ((assignEach M X.env).map (·.2)) us) (λ_ s'=>∃G H',Inv X ae G H' s'/\Q G H') X.xe s
abbrev KE:=V->V->V->Hp->(Hp->Prop)->Prop
def No (X:Cx)(t:KE):Prop :=
 ∀(ae:AO)(s:Shared)(σ:St)(H:Hp)(o i v:V)(G iv u:Value)(Q:Hp->Prop),Inv X ae σ H s->aY o G->aY i iv->aY v u->t o i v H Q ->
  wq X (setItem G iv u) (λ_ s'=>∃H',Inv X ae σ H' s'/\Q H') X.xe s
section
variable {X:Cx}{pos:Pos}
def ja (i:Nat):TG:=λv σ H Q=>Q (σ.set i (some v)) H
def A4 (G:X.N.Nodup)(hi:X.N[i]? = some x)(hx:D9 X.env.scope x)(hf:X.fn x=true∨X.env.scope.names.lookup x=some .local:=by first|exact .inl rfl|exact .inr rfl|assumption):PG X (.Name x pos) (ja i):=by
 intro ae s σ H v u Q I r h;exact wpAny_assign_Name (wQ I G hi hx r (λs' M=>⟨_,H,M,h⟩) hf)
def Np:KA:=λvs σ H Q=>vs=[]/\Q σ H
def Jx (t:TG)(u:KA):KA:=λvs σ H Q=>∃v r,vs=v::r/\t v σ H λG H'=>u r G H' Q
def ut:Pz X [] Np:=by
 intro ae s σ H vs us Q I r h;obtain⟨e,h⟩:=h;subst e;cases r
 exact assignInOrder_nil ⟨σ,H,I,h⟩
def jb {e:Expr}{es:QD}{t:TG}{u:KA}(h1:PG X e t)(h2:Pz X es u)
  (hs:(assignEach (e::es) X.env).map (·.2)=assign e X.env::(assignEach es X.env).map (·.2):=by rfl):Pz X (e::es) (Jx t u):=by
 intro ae s σ H vs us Q I r h;obtain⟨v,vr,M,h⟩:=h;subst M;cases r with
 |cons r O=>
  rw[hs];refine assignInOrder_cons (cn (h1 ae s σ H _ _ _ I r h) λ_ s1 ⟨G,T,I1,U⟩=>?_);exact h2 ae s1 G T _ _ Q I1 O U
def KG (K:Frag)(n:Nat)(t:KA):TG:=λv σ H Q=>∃a xs,v=.ref a/\iY K H a xs/\xs.length=n/\t xs σ H Q
def zt (hc:X.calm=true)(h:Pz X es t)
  (hn:(assignEach es X.env).length=n:=by rfl) (G:(assignEach es X.env).findIdx? (·.1)=none:=by rfl):PG X (.Tuple es k pos) (KG X.K n t):=by
 intro ae s σ H v u Q I r hw;obtain⟨a,xs,O,hq,hl,hw⟩:=hw;subst O;cases r
 obtain⟨its,M,T,hz⟩:=I.tuple hq;refine assign_Tuple_tuple (I.ok.hd hc) T (by simp[hn,←hl,M.length]) G λh' hx=>?_;have I1:Inv X ae σ H { s with heap:=h' }:=I.kept (t':=s.toks) λb o e=>hx b o (vS (vX e)) e;exact h ae _ σ H xs _ Q I1 (by simpa using M) hw
def Qp (to ti:TE)(t:KE):TG:=λv σ H Q=>to σ H λo G=>ti σ G λi H2=>t o i v H2 λM=>Q σ M
def KH {o i:Expr}{to ti:TE}{t:KE}(ho:PE X o to)(hi:PE X i ti)(hs:No X t)
  (ha:∀v,assign (.Subscript o i pos) X.env v=(do
   let G ←holding [v] (eval o X.env)
   let iv ←holding [v,G] (eval i X.env)
   standAt pos
   holding [v,G,iv] (setItem G iv v)
   release [v,G,iv] []):=by intro _;rfl):PG X (.Subscript o i pos) (Qp to ti t):=by
 intro ae s σ H v u Q I r h;rw[ha];refine wX (wpAny_holding (cn (ho ae s σ H _ I h) λG s1 ⟨x,M,I1,O,T⟩=>?_));refine wX (wpAny_holding (cn (hi ae s1 σ M _ I1 T) λiv s2 ⟨y,H2,I2,U,q2⟩=>?_));refine wX (wpAny_standAt (wX (wpAny_holding (cn (hs ae s2 σ H2 x y v G iv u _ I2 O U r q2) λ_ s3 ⟨H3,I3,q3⟩=>?_))));exact wpAny_release ⟨σ,H3,I3,q3⟩
def wS (G:TE)(g:TG):TS:=λD σ H=>G σ H λx M=>g x σ M D.nx
def KI {tg e:Expr}{G:TE}{g:TG}(he:PE X e G)(M:PG X tg g)(hs:swapsWithSole [tg] e pos.line X.env=pure false:=by rfl)(hw:swappedStores [tg] e X.env=pure none:=by rfl)
  (h1:(assignEach [tg] X.env).map (·.2)=[assign tg X.env]:=by rfl):PS X (.Assign [tg] e pos) (wS G g):=by
 intro ae s σ H D I h;refine wpAny_Assign_stores (cn (he ae s σ H _ I h) λv s1 ⟨x,O,I1,T,U⟩=>?_) hs hw;rw[h1];exact cn (M ae s1 σ O x v _ I1 T U) λ_ s2 q=>q
def pz {i:Nat}{x:Str}{e:Expr}{M:TE}{G:Pos}(O:X.N.Nodup)(hi:X.N[i]? = some x)(hx:D9 X.env.scope x)(he:PE X e M)(hs:swapsWith e (some (.Name x G)) pos.line X.env=pure false:=by rfl)(hf:X.fn x=true∨X.env.scope.names.lookup x=some .local:=by first|exact .inl rfl|exact .inr rfl|assumption):
  PS X (.Assign [.Name x G] e pos) (wS M (ja i)):=by
 intro ae s σ H D I h;refine wpAny_Assign_Name (cn (he ae s σ H _ I h) λv s1 ⟨y,T,I1,U,q1⟩=>?_) hs;exact wQ I1 O hi hx U (λs2 I2=>⟨_,T,I2,q1⟩) hf
end
section
variable {X:Cx}{pos:Pos}
def DD (c:TT)(tb:TS):TS:=λD σ H=>∃W:Nat->St->Hp->Prop,(∃m,W m σ H)/\∀m σ H,W m σ H ->
 c σ H λb M=>if b=true then ∃N:St->Hp->Prop,(∀G H',N G H'->∃O,O<m/\W O G H')/\tb { D with nx:=N,ct:=N,bk:=D.nx } σ M else D.nx σ M
def DE {c:Expr}{O:List Stmt}{tc:TT}{tb:TS}(hp:PassesOwn (model X.prog X.w) X.A X.env X.xe)(hc:PT X c tc)(hb:sy X O tb):PS X (.While c O [] pos) (DD tc tb):=by
 intro ae s σ H D I h;obtain⟨W,⟨m0,w0⟩,T⟩:=h;refine wpAny_While (codeAny_whileLoop (λn s'=>∃U H',Inv X ae U H' s'/\W n U H') ?_ m0 ⟨σ,H,I,w0⟩);rintro n s1 ⟨M,H1,I1,w1⟩;refine wpAny_passesOwn hp (cn (hc ae s1 M H1 _ I1 (T n M H1 w1)) λb s2 ⟨H2,I2,q2⟩=>?_);cases b with
 |true=>
  obtain⟨N,hN,q2⟩:=q2;rw[if_pos rfl];refine wpAny_passesOwn hp (cn (hb ae s2 M H2 _ I2 q2) λf s3 q3=>?_);cases f with
  |next=>
   obtain⟨G,H3,I3,n3⟩:=q3;obtain⟨m',hm,w3⟩:=hN G H3 n3;exact⟨m',hm,G,H3,I3,w3⟩
  |cont=>
   obtain⟨G,H3,I3,n3⟩:=q3;obtain⟨m',hm,w3⟩:=hN G H3 n3;exact⟨m',hm,G,H3,I3,w3⟩
  |brk=>exact q3
  |ret v=>exact q3
 |false=>
  rw[if_neg uX];exact wpAny_execs_nil ⟨M,H2,I2,q2⟩
end
structure It where
 go:Nat->Hp->Prop
 yld:Nat->Hp->V->Hp->Prop
 stop:Nat->Hp->Prop
def mU (X:Cx)(ae:AO)(H:Hp)(b:Addr):Prop :=
 H b=none/\b≠X.env.locals/\b∉X.fs/\(b∈X.ex∨X.s₀.heap.objs.size<=b)/\(∀x c,X.env.cells.lookup x=some c->c≠b)/\∀p∈X.pn++ae,p.1≠b
def Inv.fpOk (I:Inv X ae σ H s)(hb:s.heap.objs.size<=b)(hn:H' b=none):mU X ae H' b:=by
 refine⟨hn,ne_of_gt (vQ I.lt hb),I.nofs hb,.inr (vR I.sz hb),λx c e z=>?_,λp hp z=>?_⟩
 ·obtain⟨v,q⟩:=I.cell x c e;exact absurd (vQ q.lt (by rw[z];exact hb)) (Nat.lt_irrefl _)
 ·exact absurd (vQ (vX (I.pin p hp).1) (by rw[z];exact hb)) (Nat.lt_irrefl _)
structure Turn (P:Program)(w:World)(K:Frag)(tg:Expr)(J:It)(fp:List Addr)(it:Addr)(tn:Nat->Heap->Prop):Prop where
 mem:it∈fp
 obj:∀i h,tn i h->∀b∈fp,∃o,h.get? b=some o/\∀v,o.data≠.cell v
 keep:∀i h h',tn i h->(∀b∈fp,∀o,h.get? b=some o->h'.get? b=some o)->tn i h'
 item:∀(X:Cx),X.prog=P->X.w=w->X.K=K->X.calm=true->∀(i:Nat)(ae:List (Addr×Obj))(s:Shared)(σ:St)(H:Hp)(E:Value->Shared->Prop),Inv X ae σ H s->(∀b∈fp,mU X ae H b)->tn i s.heap->J.go i H ->
  wpAny (model P w) X.A (pyNext (.ref it)) (λr s1=>∃u,r=some u /\
   wpAny (model P w) X.A (letOwnedTupleGo tg (.ref it) u) (λ_ s2=>∃x H',Inv X ae σ H' s2/\aY x u/\J.yld i H x H'/\tn (i+1) s2.heap/\∀b∈fp,H' b=none) E s1) E s
 done:∀(X:Cx),X.prog=P->X.w=w->X.K=K->X.calm=true->∀(i:Nat)(ae:List (Addr×Obj))(s:Shared)(σ:St)(H:Hp)(E:Value->Shared->Prop),Inv X ae σ H s->(∀b∈fp,mU X ae H b)->tn i s.heap->J.stop i H ->
  wpAny (model P w) X.A (pyNext (.ref it)) (λr s1=>r=none/\Inv X ae σ H s1) E s
 self:∀(A:Around)(i:Nat)(s:Shared)(Q:Value->Shared->Prop)(E:Value->Shared->Prop),tn i s.heap->Q (.ref it) s->wpAny (model P w) A (pyIter (.ref it)) Q E s
abbrev TI:=St->Hp->(It->Hp->Prop)->Prop
def Sx (X:Cx)(ae:AO)(σ:St)(tg:Expr)(R:It->Hp->Prop)(G:Value)(s2:Shared):Prop :=
 ∃(it:Addr)(fp:List Addr)(tn:Nat->Heap->Prop)(J:It)(H':Hp),G=.ref it/\Inv X ae σ H' s2/\Turn X.prog X.w X.K tg J fp it tn/\tn 0 s2.heap/\(∀b∈fp,mU X ae H' b)/\R J H'
def PI (X:Cx)(tg G:Expr)(M:TI):Prop :=
 ∀(ae:AO)(s:Shared)(σ:St)(H:Hp)(R:It->Hp->Prop),Inv X ae σ H s->M σ H R ->
  wq X (eval G X.env) (λv s1=>wq X (pyIter v) (Sx X ae σ tg R) X.xe s1) X.xe s
def sA (ho:s.heap.get? it=some o)(hc:o.cls=.type n)(hd:o.data=.fields vs)
    (hn:["enumerate","zip","dict_itemiterator","dict_reverseitemiterator","odict_iterator","itertools.zip_longest","itertools.pairwise"].contains n=false) (G:Q () s):wpAny M A (letOwnedTupleGo tg (.ref it) u) Q E s:=by
  unfold letOwnedTupleGo;cases tg<;>first
    |exact wY G
    | (cases u<;>first
        |exact wY G
        | (refine wX (wpAny_load ho ?_)
           rw[hc,hd]
           show wpAny M A (if(["enumerate","zip","dict_itemiterator","dict_reverseitemiterator","odict_iterator","itertools.zip_longest","itertools.pairwise"].contains n && vs[0]? == some (rawInt _))=true then _ else _) Q E s
           rw[if_neg (by intro h;rw[hn,Bool.false_and]at h;cases h)]
           exact wY G))
noncomputable def Nq (K:Frag)(a:Addr):It :=
 ⟨λi H=>∃xs x,fT K H a xs/\xs[i]? = some x,λi H x H'=>H'=H/\∀xs,fT K H a xs->xs[i]? = some x,λi H=>∃xs,fT K H a xs/\xs.length<=i⟩
noncomputable def Sy (K:Frag)(a:Addr):It :=
 ⟨λi H=>∃xs x,iY K H a xs/\xs[i]? = some x,λi H x H'=>H'=H/\∀xs,iY K H a xs->xs[i]? = some x,λi H=>∃xs,iY K H a xs/\xs.length<=i⟩
noncomputable def Nr (lo:Int)(n:Nat):It:=⟨λi _=>i<n,λi H x H'=>H'=H/\x=.int (lo+i),λi _=>n<=i⟩
def Ch {P:Program}{w:World}{K:Frag}{tg:Expr}(a it:Addr):Turn P w K tg (Nq K a) [it] it (λi h=>h.IsListIter it a i) where
 mem:=by simp
 obj:=λi h st b hb=>by
  have e:b=it:=by simpa using hb
  subst e;obtain⟨o,e,c,d⟩:=st;exact⟨o,e,λv z=>by rw[d]at z;cases z⟩
 keep:=λi h h' st k=>st.at λo e=>k it (by simp) o e
 item:=by
  intro X M hw O hc i ae s σ H E I hf st T;subst M hw O;obtain⟨xs,x,hq,hx⟩:=T;obtain⟨its,U,p,hz⟩:=I.list hq;obtain⟨u,hu,ru⟩:=U.get hx;obtain⟨f0,f1,f2,f3,f4,f5⟩:=hf it (by simp);refine wpAny_pyNext_list_item st p.isList (x:=u) (by simpa using hu) λh' G sb=>?_;have I1:Inv X ae σ H { s with heap:=h' }:=I.turned (t':=s.toks) (λb o hb e=>(sb.2 b hb).trans e) f0 f1 f3 f4 f5;obtain⟨o,e,c,d⟩:=id G;exact⟨u,rfl,sA (s:={ s with heap:=h' }) e c d (by decide) ⟨x,H,I1,ru,⟨rfl,λys hy=>by rw[I.list_inj hy hq];exact hx⟩,G,λb hb=>(hf b hb).1⟩⟩
 done:=by
  intro X M hw O hc i ae s σ H E I hf st T;subst M hw O;obtain⟨xs,hq,hx⟩:=T;obtain⟨its,U,p,hz⟩:=I.list hq;obtain⟨f0,f1,f2,f3,f4,f5⟩:=hf it (by simp);have hl:=U.length;exact wpAny_pyNext_list_end (I.ok.hd hc) st p.isList (by simp;omega) λh' eb=>⟨rfl,I.turned (t':=s.toks) (λb o hb e=>eb b o hb e) f0 f1 f3 f4 f5⟩
 self:=λ_ _ _ _ _ st h=>wpAny_pyIter_listiter st h
def zu {P:Program}{w:World}{K:Frag}{tg:Expr}(a it:Addr):Turn P w K tg (Sy K a) [it] it (λi h=>h.IsTupleIter it a i) where
 mem:=by simp
 obj:=λi h st b hb=>by
  have e:b=it:=by simpa using hb
  subst e;obtain⟨o,e,c,d⟩:=st;exact⟨o,e,λv z=>by rw[d]at z;cases z⟩
 keep:=λi h h' st k=>st.at λo e=>k it (by simp) o e
 item:=by
  intro X M hw O hc i ae s σ H E I hf st T;subst M hw O;obtain⟨xs,x,hq,hx⟩:=T;obtain⟨its,U,p,hz⟩:=I.tuple hq;obtain⟨u,hu,ru⟩:=U.get hx;obtain⟨f0,f1,f2,f3,f4,f5⟩:=hf it (by simp);refine wpAny_pyNext_tuple_item st (show s.heap.IsTuple a its.toArray from p) (x:=u) (by simpa using hu) λh' G sb=>?_;have I1:Inv X ae σ H { s with heap:=h' }:=I.turned (t':=s.toks) (λb o hb e=>(sb.2 b hb).trans e) f0 f1 f3 f4 f5;obtain⟨o,e,c,d⟩:=id G;exact⟨u,rfl,sA (s:={ s with heap:=h' }) e c d (by decide) ⟨x,H,I1,ru,⟨rfl,λys hy=>by rw[I.tuple_inj hy hq];exact hx⟩,G,λb hb=>(hf b hb).1⟩⟩
 done:=by
  intro X M hw O hc i ae s σ H E I hf st T;subst M hw O;obtain⟨xs,hq,hx⟩:=T;obtain⟨its,U,p,hz⟩:=I.tuple hq;obtain⟨f0,f1,f2,f3,f4,f5⟩:=hf it (by simp);have hl:=U.length;exact wpAny_pyNext_tuple_end (I.ok.hd hc) st (show s.heap.IsTuple a its.toArray from p) (by simp;omega) λh' eb=>⟨rfl,I.turned (t':=s.toks) (λb o hb e=>eb b o hb e) f0 f1 f3 f4 f5⟩
 self:=λ_ _ _ _ _ st h=>wpAny_pyIter_tupleiter st h
def zv {P:Program}{w:World}{K:Frag}{tg:Expr}(it:Addr)(lo:Int)(n:Nat):Turn P w K tg (Nr lo n) [it] it (λi h=>IsRangeIter h it (lo+(i:Nat)*1) ((n:Int) - (i:Nat)) 1) where
 mem:=by simp
 obj:=λi h st b hb=>by
  have e:b=it:=by simpa using hb
  subst e;exact⟨_,st,λv z=>by
   have U:Data.fields _=Data.cell v:=z;cases U⟩
 keep:=λi h h' st k=>k it (by simp) _ st
 item:=by
  intro X M hw O hc i ae s σ H E I hf st T;subst M hw O;obtain⟨f0,f1,f2,f3,f4,f5⟩:=hf it (by simp);have W:=Walks.range (prog:=X.prog) (w:=X.w) (I.ok.hd hc) it lo 1 n;refine W.item i s _ _ T st λv h' tk hv G kk=>?_;obtain⟨t,rfl⟩:=hv;have I1:Inv X ae σ H { s with heap:=h',toks:=tk }:=I.turned (λb o hb e=>kk b o (by simpa using hb) e) f0 f1 f3 f4 f5;refine⟨_,rfl,sA (s:={ s with heap:=h',toks:=tk }) (n:="range_iterator") G rfl rfl (by decide) ⟨.int (lo+i),H,I1,⟨t,?_⟩,⟨rfl,rfl⟩,G,λb hb=>(hf b hb).1⟩⟩;rw[Int.mul_one]
 done:=by
  intro X M hw O hc i ae s σ H E I hf st T;subst M hw O;obtain⟨f0,f1,f2,f3,f4,f5⟩:=hf it (by simp);exact wpAny_pyNext_range_end (I.ok.hd hc) st (by have:n<=i:=T;omega) λh' eb=>⟨rfl,I.turned (t':=s.toks) (λb o hb e=>eb b o hb e) f0 f1 f3 f4 f5⟩
 self:=λ_ _ _ _ _ st h=>wpAny_pyIter_rangeiter st h
section
variable {X:Cx}{tg:Expr}
def Nt (K:Frag)(tl:TE):TI:=λσ H R=>tl σ H λx G=>∃a,x=.ref a/\(∃xs,fT K G a xs)/\R (Nq K a) G
def Qq (K:Frag)(tl:TE):TI:=λσ H R=>tl σ H λx G=>∃a,x=.ref a/\(∃xs,iY K G a xs)/\R (Sy K a) G
def GB {l:Expr}{tl:TE}(hl:PE X l tl):PI X tg l (Nt X.K tl):=by
 intro ae s σ H R I h;refine cn (hl ae s σ H _ I h) λv s1 ⟨x,G,I1,M,O⟩=>?_;obtain⟨a,e,⟨xs,hq⟩,q⟩:=O;subst e;cases M
 obtain⟨its,T,p,hz⟩:=I1.list hq;refine wpAny_pyIter_list p.isList ?_;refine⟨s1.heap.objs.size,[s1.heap.objs.size],_,_,G,rfl,I1.kept (t':=s1.toks) λb o e=>vZ _ e,Ch a _,⟨_,vY _ rfl,rfl,rfl⟩,λb hb=>?_,q⟩;have e:b=s1.heap.objs.size:=by simpa using hb
 subst e;exact I1.fpOk (vT _) (I1.hok.fresh (vT _))
def KJ {l:Expr}{tl:TE}(hl:PE X l tl):PI X tg l (Qq X.K tl):=by
 intro ae s σ H R I h;refine cn (hl ae s σ H _ I h) λv s1 ⟨x,G,I1,M,O⟩=>?_;obtain⟨a,e,⟨xs,hq⟩,q⟩:=O;subst e;cases M
 obtain⟨its,T,p,hz⟩:=I1.tuple hq;refine wpAny_pyIter_tuple (show s1.heap.IsTuple a its.toArray from p) ?_;refine⟨s1.heap.objs.size,[s1.heap.objs.size],_,_,G,rfl,I1.kept (t':=s1.toks) λb o e=>vZ _ e,zu a _,⟨_,vY _ rfl,rfl,rfl⟩,λb hb=>?_,q⟩;have e:b=s1.heap.objs.size:=by simpa using hb
 subst e;exact I1.fpOk (vT _) (I1.hok.fresh (vT _))
def wT {ae:AO}{σ:St}{H:Hp}{s:Shared}{R:It->Hp->Prop}{E:QV}{lo hi:Int}{t u v:Tok}{tk:Nat}(I:Inv X ae σ H s)(h1 : -(2 ^ 62)<=lo)(h2:lo<2 ^ 62)(h3 : -(2 ^ 62)<=hi)(h4:hi<2 ^ 62)
  (q:R (Nr lo (hi - lo).toNat) H):wq X (pyIter (.ref s.heap.objs.size)) (Sx X ae σ tg R) E { s with heap:=s.heap.push { cls:=.type "range",data:=.fields #[.int lo t,.int hi u,.int 1 v] },toks:=tk }:=by
 refine wpAny_pyIter_range (IsRange.new ..) (small_one h1 h2 h3 h4) ?_;have I1:Inv X ae σ H { s with heap:=s.heap.push { cls:=.type "range",data:=.fields #[.int lo t,.int hi u,.int 1 v] },toks:=tk }:=I.kept λb o e=>vZ _ e;refine⟨(s.heap.push { cls:=.type "range",data:=.fields #[.int lo t,.int hi u,.int 1 v] }).objs.size,[(s.heap.push { cls:=.type "range",data:=.fields #[.int lo t,.int hi u,.int 1 v] }).objs.size],_,_,H,rfl,
  I1.kept (t':=tk) λb o e=>vZ _ e,zv _ lo (hi - lo).toNat,?_,λb hb=>?_,q⟩
 ·have G:lo+((0:Nat):Int)*1=lo:=by simp
  have e2:(((hi - lo).toNat:Nat):Int) - ((0:Nat):Int)=Builtin.Range.rangeSize lo hi 1:=by rw[rangeSize_one];split<;>omega
  show IsRangeIter _ _ (lo+((0:Nat):Int)*1) ((((hi - lo).toNat:Nat):Int) - ((0:Nat):Int)) 1;rw[G,e2];exact vY _ rfl
 ·have e:b=(s.heap.push { cls:=.type "range",data:=.fields #[.int lo t,.int hi u,.int 1 v] }).objs.size:=by simpa using hb
  subst e;exact I1.fpOk (vT _) (I1.hok.fresh (vT _))
def Nu (G:TA):TI:=λσ H R=>G σ H λvs M=>∃j:Int,vs=[.int j]/\-(2 ^ 62)<=j/\j<2 ^ 62/\R (Nr 0 j.toNat) M
def Nv (G:TA):TI:=λσ H R=>G σ H λvs M=>∃i j:Int,vs=[.int i,.int j]/\(-(2 ^ 62)<=i/\i<2 ^ 62/\-(2 ^ 62)<=j/\j<2 ^ 62)/\R (Nr i (j - i).toNat) M
def Ci {a:Expr}{O:TA}{p G:Pos}(T:Gl X "range")(hm:X.mg "range" = none)(ha:PA X [a] O)(hs:starEach [a] X.env=[(false,eval a X.env)]:=by rfl):PI X tg (.Call (.Name "range" p) [a] [] G) (Nu O):=by
 intro ae s σ H R I h;refine Call_ (gX I T hm boot_range (PyProof.Rows.callWith_type1 (cn (ha G ae s σ H _ I h) λus s1 ⟨vs,H1,I1,U,M⟩=>?_) hs rfl));obtain⟨j,e,M,q2,q⟩:=M;subst e;cases U with
 |cons r rr=>
  cases rr
  obtain⟨t,rfl⟩:=r;exact call_range_1 (wT I1 (by omega) (by omega) M q2 (by simpa using q))
def Cj {a b:Expr}{U:TA}{p G:Pos}(hg:Gl X "range")(hm:X.mg "range" = none)(ha:PA X [a,b] U)(hs:starEach [a,b] X.env=[(false,eval a X.env),(false,eval b X.env)]:=by rfl)(M:starEach [b] X.env=[(false,eval b X.env)]:=by rfl):
  PI X tg (.Call (.Name "range" p) [a,b] [] G) (Nv U):=by
 intro ae s σ H R I h;refine Call_ (gX I hg hm boot_range (PyProof.Rows.callWith_type1 (cn (ha G ae s σ H _ I h) λus s1 ⟨vs,H1,I1,r1,O⟩=>?_) (by rw[hs,M]) (by rw[M];rfl)));obtain⟨i,j,e,⟨O,q2,q3,q4⟩,q⟩:=O;subst e;cases r1 with
 |cons r T=>
  cases T with
  |cons r' T=>
   cases T
   obtain⟨t,rfl⟩:=r;obtain⟨t',rfl⟩:=r';exact call_range_2 (wT I1 O q2 q3 q4 q)
def KN (T:TI)(g:TG)(tb:TS):TS:=λD σ H=>T σ H λJ U=>∃W:Nat->Nat->St->Hp->Prop,(∃m,W 0 m σ U)/\∀i m σ H,W i m σ H ->
 (J.stop i H/\D.nx σ H)∨(J.go i H/\∃N:St->Hp->Prop,(∀G H',N G H'->∃O,O<m/\W (i+1) O G H')/\∀x H',J.yld i H x H'->g x σ H' λM H2=>tb { D with nx:=N,ct:=N,bk:=D.nx } M H2)
def mV (fp:List Addr)(h:Heap):AO:=fp.filterMap λb=>(h.get? b).map λo=>(b,o)
def jx {fp:List Addr}{h:Heap}{b:Addr}{o:Obj}(hb:b∈fp)(e:h.get? b=some o):(b,o)∈mV fp h:=mem_filterMap.mpr ⟨b,hb,by rw[e];rfl⟩
def Ck (hp:p∈mV fp h):p.1∈fp/\h.get? p.1=some p.2:=by
 obtain⟨b,hb,e⟩:=mem_filterMap.mp hp;cases q:h.get? b with
 |none=>rw[q]at e;cases e
 |some o=>
  rw[q]at e;have G:(b,o)=p:=vK e;subst G;exact⟨hb,q⟩
def Inv.pinned (I:Inv X ae σ H s)(hf:∀b∈fp,mU X ae H b)(ho:∀b∈fp,∃o,s.heap.get? b=some o/\∀v,o.data≠.cell v):Inv X (ae++mV fp s.heap) σ H s :=
 I.pins_of λp hp=>(mem_append.mp hp).elim (λz=>I.pin p (mY _ z)) λz=>by
  obtain⟨hb,e⟩:=Ck z;obtain⟨f0,f1,f2,_⟩:=hf p.1 hb;obtain⟨o,G,d⟩:=ho p.1 hb;rw[e]at G;cases G;exact⟨e,f0,f1,f2,d⟩
def Inv.unpinned (I:Inv X (ae++pl) σ H s):Inv X ae σ H s:=I.pins_of λp hp=>I.pin p (mY _ (mem_append_left _ hp))
def DF {M:Expr}{body:List Stmt}{wi:TI}{g:TG}{tb:TS}{pos:Pos}(hp:PassesOwn (model X.prog X.w) X.A X.env X.xe)(hc:X.calm=true)(hi:PI X tg M wi)(hg:PG X tg g)(hb:sy X body tb)
  (hs:∀x,foldedSetIterable M X.env x=pure x:=by intro _;rfl):PS X (.For tg M body [] pos) (KN wi g tb):=by
 intro ae s σ H D I h;refine wpAny_For (cn (hi ae s σ H _ I h) λv s1 h1=>cn h1 λTd s2 h2=>?_) hs;obtain⟨it,fp,tn,J,H2,e,I2,T,Jm,f2,W,⟨m0,w0⟩,Re⟩:=h2;subst e
 -- what stays true of the iterator's objects through the loop
 have O:∀ {H':Hp},(∀b∈fp,H' b=none)->∀b∈fp,mU X ae H' b:=λhn b hb=>⟨hn b hb,(f2 b hb).2⟩;refine codeAny_forLoop_any (λn s'=>∃i U H',Inv X ae U H' s'/\tn i s'.heap/\(∀b∈fp,H' b=none)/\W i n U H') ?_ m0 ⟨0,σ,H2,I2,Jm,λb hb=>(f2 b hb).1,w0⟩;rintro n s3 ⟨i,σ3,H3,I3,Te,Tf,w3⟩;rcases Re i n σ3 H3 w3 with⟨stop,qn⟩|⟨go,N,hN,step⟩
 ·refine wpAny_passesOwn hp (cn (T.done X rfl rfl rfl hc i ae s3 σ3 H3 X.xe I3 (O Tf) Te stop) λr s4 ⟨hr,I4⟩=>?_);subst hr;exact wpAny_execs_nil ⟨σ3,H3,I4,qn⟩
 ·refine wpAny_passesOwn hp (cn (T.item X rfl rfl rfl hc i ae s3 σ3 H3 X.xe I3 (O Tf) Te go) λr s4 ⟨u,hr,h4⟩=>?_);subst hr;refine wpAny_passesOwn hp (cn h4 λ_ s5 ⟨x,H5,I5,r5,y5,Rf,Rg⟩=>?_);have Vq:=I5.pinned (O Rg) (T.obj _ _ Rf);refine wpAny_passesOwn hp (cn (hg _ s5 σ3 H5 x u _ Vq r5 (step x H5 y5)) λ_ s6 ⟨σ6,H6,I6,q6⟩=>?_);refine wpAny_passesOwn hp (cn (hb _ s6 σ6 H6 _ I6 q6) λf s7 q7=>?_);have again:∀ {G:St}{H7:Hp},Inv X (ae++mV fp s5.heap) G H7 s7->N G H7->∃m,m<n/\∃i U H',Inv X ae U H' s7/\tn i s7.heap/\(∀b∈fp,H' b=none)/\W i m U H':=λ{G H7} I7 n7=>by
   obtain⟨m',hm,w7⟩:=hN G H7 n7;refine⟨m',hm,i+1,G,H7,I7.unpinned,T.keep _ _ _ Rf λb hb o e=>(I7.pin (b,o) (mY _ (mY _ (jx hb e)))).1,λb hb=>?_,w7⟩;obtain⟨o,e,d⟩:=T.obj _ _ Rf b hb;exact(I7.pin (b,o) (mY _ (mY _ (jx hb e)))).2.1
  cases f with
  |next=>obtain⟨G,H7,I7,n7⟩:=q7;exact again I7 n7
  |cont=>obtain⟨G,H7,I7,n7⟩:=q7;exact again I7 n7
  |brk=>obtain⟨G,H7,I7,q7⟩:=q7;exact⟨G,H7,I7.unpinned,q7⟩
  |ret v=>obtain⟨x7,G,H7,I7,r7,q7⟩:=q7;exact⟨x7,G,H7,I7.unpinned,r7,q7⟩
end
abbrev R2:=V->V->Hp->VK->Prop
def dw (X:Cx)(f:Value->Value->Sem Value)(r:R2):Prop :=
 ∀(ae:AO)(s:Shared)(σ:St)(H:Hp)(x y:V)(v u:Value)(Q:VK),Inv X ae σ H s->aY x v->aY y u->r x y H Q ->
  wq X (f v u) (EP X ae σ Q) X.xe s
def Nw (X:Cx)(f:Value->Sem Value)(r:V->Hp->VK->Prop):Prop :=
 ∀(ae:AO)(s:Shared)(σ:St)(H:Hp)(x:V)(v:Value)(Q:VK),Inv X ae σ H s->aY x v->r x H Q ->
  wq X (f v) (EP X ae σ Q) X.xe s
def bW (X:Cx)(f:Value)(r:List V->Hp->VK->Prop):Prop :=
 ∀(ae:AO)(s:Shared)(σ:St)(H:Hp)(xs:List V)(us:LU)(Q:VK),Inv X ae σ H s->ba xs us->r xs H Q ->
  wq X (call f us) (EP X ae σ Q) X.xe s
def P0 (r:R2)(G tb:TE):TE:=λσ H Q=>G σ H λx M=>tb σ M λy H2=>r x y H2 Q
def U1 (r:V->Hp->VK->Prop)(G:TE):TE:=λσ H Q=>G σ H λx M=>r x M Q
def rI (C:Int->Int->Prop)(g:Int->Int->V):R2:=λx y H Q=>∃i j,x=.int i/\y=.int j/\C i j/\Q (g i j) H
def Gw (g:Int->Int->V):R2:=λx y H Q=>∃i j,x=.int i/\y=.int j/\Q (g i j) H
def rU (g:Int->V):V->Hp->VK->Prop:=λx H Q=>∃i,x=.int i/\Q (g i) H
section
variable {X:Cx}{a b c:Expr}{ta tb tc:TE}{pos:Pos}
def KO (ha:PE X a ta)(hb:PE X b tb){ae:AO}{s:Shared}{σ:St}{H:Hp}{R:V->V->Hp->Prop}(I:Inv X ae σ H s)
  (h:ta σ H λx O=>tb σ O λy H2=>R x y H2) {Q:QV}{f:Value->Value->Sem Value}
  (hf:∀v u s2 x y H2,Inv X ae σ H2 s2->aY x v->aY y u->R x y H2->wq X (f v u) Q X.xe s2):
  wq X (eval a X.env) (λv G=>wq X (eval b X.env) (λu M=>wq X (f v u) Q X.xe M) X.xe G) X.xe s:=by
 refine cn (ha ae s σ H _ I h) λv s1 ⟨x,O,I1,T,U⟩=>?_;refine cn (hb ae s1 σ O _ I1 U) λu s2 ⟨y,H2,I2,r2,q2⟩=>?_;exact hf v u s2 x y H2 I2 T r2 q2
def Jy {op:Operator}{r:R2}(ho:dw X (binaryOp op) r)(ha:PE X a ta)(hb:PE X b tb):PE X (.BinOp a op b pos) (P0 r ta tb):=by
 intro ae s σ H Q I h;exact wpAny_BinOp (KO ha hb I h λv u s2 x y H2 I2 G M q=>ho ae s2 σ H2 x y v u Q I2 G M q)
def Jz {op:UnaryOp}{r:V->Hp->VK->Prop}(ho:Nw X (unaryOp op) r)(ha:PE X a ta):PE X (.UnaryOp op a pos) (U1 r ta):=by
 intro ae s σ H Q I h;exact UnaryOp_ (cn (ha ae s σ H _ I h) λv s1 ⟨x,G,I1,M,O⟩=>ho ae s1 σ G x v Q I1 M O)
def Qr {f:Value->Value->Sem Value}{C:Int->Int->Prop}{g:Int->Int->Int}
  (rule:∀(i j:Int)(t u:Tok)(s:Shared)(Q:QV)(E:QV),C i j->Q (.int (g i j) s.toks) { s with toks:=s.toks+1 }->wq X (f (.int i t) (.int j u)) Q E s):
  dw X f (rI C λi j=>.int (g i j)):=by
 intro ae s σ H x y v u Q I G M h;obtain⟨i,j,rfl,rfl,hc,q⟩:=h;obtain⟨t,rfl⟩:=G;obtain⟨t',rfl⟩:=M;exact rule i j t t' s _ _ hc ⟨.int (g i j),H,I.tok _,⟨_,rfl⟩,q⟩
def KP {f:Value->Value->Sem Value}{g:Int->Int->Int}
  (rule:∀(i j:Int)(t u:Tok)(s:Shared)(Q:QV)(E:QV),Q (.int (g i j) s.toks) { s with toks:=s.toks+1 }->wq X (f (.int i t) (.int j u)) Q E s):
  dw X f (Gw λi j=>.int (g i j)):=by
 intro ae s σ H x y v u Q I G M h;obtain⟨i,j,rfl,rfl,q⟩:=h;obtain⟨t,rfl⟩:=G;obtain⟨t',rfl⟩:=M;exact rule i j t t' s _ _ ⟨.int (g i j),H,I.tok _,⟨_,rfl⟩,q⟩
def GC {f:Value->Value->Sem Value}{g:Int->Int->Bool}
  (rule:∀(i j:Int)(t u:Tok)(s:Shared)(Q:QV)(E:QV),Q (.bool (g i j)) s->wq X (f (.int i t) (.int j u)) Q E s):
  dw X f (Gw λi j=>.bl (g i j)):=by
 intro ae s σ H x y v u Q I G M h;obtain⟨i,j,rfl,rfl,q⟩:=h;obtain⟨t,rfl⟩:=G;obtain⟨t',rfl⟩:=M;exact rule i j t t' s _ _ ⟨.bl (g i j),H,I,rfl,q⟩
def Nx (i j:Int):Prop:=0<j/\j<1073741824
def GD (i j:Int):Prop:=(-(2 ^ 64)<i/\i<2 ^ 64)∨(-(2 ^ 64)<j/\j<2 ^ 64)
def GD.ok (h:GD i j):IntMulOk i j:=by
 rcases h with⟨h1,h2⟩|⟨h1,h2⟩
 ·exact .of_left (intBits_le_64 h1 h2)
 ·exact .of_right (intBits_le_64 h1 h2)
def KQ:dw X (binaryOp .Add) (Gw λi j=>.int (i+j)):=KP λ_ _ _ _ _ _ _ q=>add_int q
def KR:dw X (binaryOp .Sub) (Gw λi j=>.int (i - j)):=KP λ_ _ _ _ _ _ _ q=>sub_int q
def KS:dw X (binaryOp .Mult) (rI GD λi j=>.int (i*j)):=Qr λ_ _ _ _ _ _ _ hc q=>mul_int q hc.ok
def GF:dw X (binaryOp .FloorDiv) (rI Nx λi j=>.int (i / j)):=Qr λi j _ _ _ _ _ hc q=>by
 have h1:(0:Int)<j:=hc.1;have h2:j<1073741824:=hc.2;exact floordiv_int (by omega) (by rw[Int.fdiv_eq_ediv_of_nonneg i (by omega)];exact q) (.inl (PyProof.noPylong_small (by omega)))
def KU:dw X (binaryOp .Mod) (rI (λ_ j=>0<j) λi j=>.int (i % j)):=Qr λi j _ _ _ _ _ hc q=>by
 have h1:(0:Int)<j:=hc;exact mod_int' (by omega) (by rw[Int.fmod_eq_emod_of_nonneg i (by omega)];exact q)
def KW:dw X (binaryOp .BitAnd) (Gw λi j=>.int (Builtin.bitAnd i j)):=KP λ_ _ _ _ _ _ _ q=>and_int q
def U2 {f:Value->Sem Value}{g:Int->Int}
  (rule:∀(i:Int)(t:Tok)(s:Shared)(Q:QV)(E:QV),Q (.int (g i) s.toks) { s with toks:=s.toks+1 }->wq X (f (.int i t)) Q E s):
  Nw X f (rU λi=>.int (g i)):=by
 intro ae s σ H x v Q I G h;obtain⟨i,rfl,q⟩:=h;obtain⟨t,rfl⟩:=G;exact rule i t s _ _ ⟨.int (g i),H,I.tok _,⟨_,rfl⟩,q⟩
def DG:Nw X (unaryOp .USub) (rU λi=>.int (-i)):=U2 λ_ _ _ _ _ q=>neg_int q
def Cm:dw X (binaryOp .Add) (λx y H Q=>∃i k,x=.int i/\y=.bl k/\Q (.int (i+b2i k)) H):=by
 intro ae s σ H x y v u Q I G M h;obtain⟨i,k,rfl,rfl,q⟩:=h;obtain⟨t,rfl⟩:=G;cases M
 exact add_int_bool ⟨.int (i+b2i k),H,I.tok _,⟨_,rfl⟩,q⟩
end
section
variable {X:Cx}{a b c:Expr}{ta tb tc:TE}{pos:Pos}
def Ny:dw X (compareOp .Lt) (Gw λi j=>.bl (decide (i<j))):=GC λ_ _ _ _ _ _ _ q=>lt_int q
def Nz:dw X (compareOp .LtE) (Gw λi j=>.bl (decide (i<=j))):=GC λ_ _ _ _ _ _ _ q=>le_int q
def N6:dw X (compareOp .Gt) (Gw λi j=>.bl (decide (j<i))):=GC λ_ _ _ _ _ _ _ q=>gt_int q
def N7:dw X (compareOp .GtE) (Gw λi j=>.bl (decide (j<=i))):=GC λ_ _ _ _ _ _ _ q=>ge_int q
def dw.or (h:dw X f r)(h':dw X f r'):dw X f (λx y H Q=>r x y H Q∨r' x y H Q):=by
 intro ae s σ H x y v u Q I G M q;rcases q with q|q
 ·exact h ae s σ H x y v u Q I G M q
 ·exact h' ae s σ H x y v u Q I G M q
def GG (ho:dw X (compareOp op) r)(ha:PE X a ta)(hb:PE X b tb)(hm:behindInMarks op b=false):PE X (.Compare a [op] [b] pos) (P0 r ta tb):=by
 intro ae s σ H Q I h;exact wpAny_Compare1 (KO ha hb I h λv u s2 x y H2 I2 G M q=>ho ae s2 σ H2 x y v u Q I2 G M q) hm
def J0 (t:TE):TT:=λσ H Q=>t σ H λx H'=>∃k,x=.bl k/\Q k H'
def GH {op:CmpOp}{r:R2}(ho:dw X (compareOp op) r)(ha:PE X a ta)(hb:PE X b tb)(hm:behindInMarks op b=false):PT X (.Compare a [op] [b] pos) (J0 (P0 r ta tb)):=by
 intro ae s σ H Q I h;refine wpAny_isTrue_Compare1 (cn (ha ae s σ H _ I h) λv s1 ⟨x,G,I1,M,O⟩=>cn (hb ae s1 σ G _ I1 O) λu s2 ⟨y,H2,I2,T,U⟩=>
  cn (ho ae s2 σ H2 x y v u _ I2 M T U) λc s3 ⟨z,H3,I3,r3,k,e,q3⟩=>?_) hm
 subst e;cases r3
 exact wpAny_truthy_bool ⟨H3,I3,q3⟩
def zw (r M:R2)(ta tb tc:TE):TE:=λσ H Q=>ta σ H λx O=>tb σ O λy H2=>r x y H2 λz G=>∃k,z=.bl k /\
 (if k=true then tc σ G λT U=>M y T U Q else Q (.bl false) G)
def DH {op G:CmpOp}{r O:R2}(ho:dw X (compareOp op) r)(M:dw X (compareOp G) O)(ha:PE X a ta)(hb:PE X b tb)(hc:PE X c tc)
  (hm:lastMarks [op,G] [b,c]=false:=by with_unfolding_all rfl):PE X (.Compare a [op,G] [b,c] pos) (zw r O ta tb tc):=by
 intro ae s σ H Q I h;refine Compare_chain (cn (ha ae s σ H _ I h) λv s1 ⟨x,H1,I1,r1,q1⟩=>chain_link (cn (hb ae s1 σ H1 _ I1 q1) λu s2 ⟨y,H2,I2,T,q2⟩=>
  cn (ho ae s2 σ H2 x y v u _ I2 r1 T q2) λd s3 ⟨z,U,I3,r3,k,e,q3⟩=>?_)) hm
 subst e;cases r3
 refine wpAny_truthy_bool ?_;cases k with
 |false=>exact ite_ff ⟨.bl false,U,I3,rfl,q3⟩
 |true=>exact ite_tt (chain_last (cn (hc ae s3 σ U _ I3 q3) λw' s4 ⟨z',H4,I4,r4,q4⟩=>M ae s4 σ H4 y z' u w' Q I4 T r4 q4))
def DI {op G:CmpOp}{r O:R2}(ho:dw X (compareOp op) r)(M:dw X (compareOp G) O)(ha:PE X a ta)(hb:PE X b tb)(hc:PE X c tc)
  (hm:lastMarks [op,G] [b,c]=false:=by with_unfolding_all rfl):PT X (.Compare a [op,G] [b,c] pos) (J0 (zw r O ta tb tc)):=by
 intro ae s σ H Q I h;refine isTrue_chain (cn (ha ae s σ H _ I h) λv s1 ⟨x,H1,I1,r1,q1⟩=>test_link (cn (hb ae s1 σ H1 _ I1 q1) λu s2 ⟨y,H2,I2,T,q2⟩=>
  cn (ho ae s2 σ H2 x y v u _ I2 r1 T q2) λd s3 ⟨z,U,I3,r3,k,e,q3⟩=>?_)) hm
 subst e;cases r3
 refine wpAny_truthy_bool ?_;cases k with
 |false=>
  obtain⟨k',e',q'⟩:=q3;cases e'
  exact ite_ff ⟨U,I3,q'⟩
 |true=>
  refine ite_tt (test_last (cn (hc ae s3 σ U _ I3 q3) λw' s4 ⟨z',H4,I4,r4,q4⟩=>cn (M ae s4 σ H4 y z' u w' _ I4 T r4 q4) λd' s5 ⟨z2,H5,I5,r5,k2,e2,q5⟩=>?_));subst e2;cases r5
  exact wpAny_truthy_bool ⟨H5,I5,q5⟩
def mW:(sizeLine:Nat)<2 ^ 63:=by rw[sizeLine_eq];decide
def zx:dw X (binaryOp .Add) (λx y H Q=>∃i j,x=.str i/\y=.str j/\i.length+j.length<=sizeLine/\Q (.str (i++j)) H):=by
 intro ae s σ H x y v u Q I G M h;obtain⟨i,j,rfl,rfl,hz,q⟩:=h;obtain⟨t,rfl⟩:=G;obtain⟨t',rfl⟩:=M;exact add_str (λt' tk=>⟨.str (i++j),H,I.tok _,⟨_,rfl⟩,q⟩) hz
def gI (r:ba [x] us):∃u,us=[u]/\aY x u:=by
 cases r with
 |cons G M=>cases M;exact⟨_,rfl,G⟩
def DJ (r:ba [x,y] us):∃u G,us=[u,G]/\aY x u/\aY y G:=by
 cases r with
 |cons M O=>
  cases O with
  |cons T U=>cases U;exact⟨_,_,rfl,M,T⟩
def Cn (hc:X.calm=true):bW X (.builtin "max") (λxs H Q=>∃i j,xs=[.int i,.int j]/\Q (.int (if j > i then j else i)) H):=by
 intro ae s σ H xs us Q I r h;obtain⟨i,j,rfl,q⟩:=h;obtain⟨u,G,rfl,⟨t,rfl⟩,⟨t',rfl⟩⟩:=DJ r;refine max_two_ints (I.ok.hd hc) λh' tk k=>⟨_,H,I.kept k,?_,q⟩;by_cases hj:j > i
 ·rw[if_pos hj,if_pos hj];exact⟨_,rfl⟩
 ·rw[if_neg hj,if_neg hj];exact⟨_,rfl⟩
def Co (hc:X.calm=true):bW X (.builtin "min") (λxs H Q=>∃i j,xs=[.int i,.int j]/\Q (.int (if j<i then j else i)) H):=by
 intro ae s σ H xs us Q I r h;obtain⟨i,j,rfl,q⟩:=h;obtain⟨u,G,rfl,⟨t,rfl⟩,⟨t',rfl⟩⟩:=DJ r;refine min_two_ints (I.ok.hd hc) λh' tk k=>⟨_,H,I.kept k,?_,q⟩;by_cases hj:j<i
 ·rw[if_pos hj,if_pos hj];exact⟨_,rfl⟩
 ·rw[if_neg hj,if_neg hj];exact⟨_,rfl⟩
def Cp:bW X (.type "int") (λxs H Q=>(∃i,xs=[.int i]/\Q (.int i) H)∨∃k,xs=[.bl k]/\Q (.int (if k then 1 else 0)) H):=by
 intro ae s σ H xs us Q I r h;rcases h with⟨i,rfl,q⟩|⟨k,rfl,q⟩
 ·obtain⟨u,rfl,t,rfl⟩:=gI r;exact call_int_int ⟨.int i,H,I,⟨_,rfl⟩,q⟩
 ·obtain⟨u,rfl,G⟩:=gI r;cases G
  exact call_int_bool ⟨.int (if k then 1 else 0),H,I.tok _,⟨_,rfl⟩,q⟩
end
structure Jn (h:Heap)(x dx C:Addr)(mA:Str->Option Value):Prop where
 obj:h.get? x=some (PySem.W.instObj C dx)
 ns:h.Ns1 dx mA
 ne:dx≠x
def Cq {h:Heap}{dx:Addr}{mA:SV}(n:h.Ns1 dx mA):∃od,h.get? dx=some od/\∀name,PySem.W.lookIn name od=some (mA name):=by
 obtain⟨o,es,O,ho,hd,hk,_,hm⟩:=n;refine⟨o,ho,λname=>?_⟩;have e:=hm name;unfold nsFind findBy at e;rw[←Array.find?_toList]at e;unfold PySem.W.lookIn;rw[hd];dsimp only;split
 ·rename_i y q;rw[q]at e;exact congrArg some e
 ·rename_i q;rw[q]at e;have a:es.toList.any (·.refKey)=false:=by
   rw[List.any_eq_false];intro y hy;obtain⟨z,t,G⟩:=hk y (Array.mem_toList_iff.mp hy);simp[DictEntry.refKey,G]
  have M:¬es.toList.any (·.refKey)=true:=by rw[a];exact uX
  rw[if_neg M];exact congrArg some e
def Jn.look (I:Jn h x dx C mA):∃od,PySem.W.InstAt h x (PySem.W.instObj C dx) C (some od)/\∀name,PySem.W.lookIn name od=some (mA name) :=
 let ⟨od,ho,hl⟩:=Cq I.ns
 ⟨od,⟨I.obj,rfl,rfl,ho⟩,hl⟩
section
variable {prog:Program}{w:World}{A:Around}{E:QV}{s:Shared}{K:Frag}{x dx C f:Addr}{mA:SV}{name:Str}{v:Value}
end
def lb.some_of (r:lb (some v) o):∃u,o=some u/\aY v u:=by
 cases o with
 |none=>exact(show False from r).elim
 |some u=>exact⟨u,rfl,r⟩
def lb.none_of (r:lb none o):o=none:=by
 cases o with
 |none=>rfl
 |some u=>exact(show False from r).elim
section
variable {P:Program}{w:World}{H H':Hp}{h h':Heap}{a C dx:Addr}{fs Vo:List (Str×V)}
def A5 (hok:lf P w H h)(e:H a=some (.ins C dx fs)):∃mA,Jn h a dx C mA/\(∀f,lb (fs.lookup f) (mA f))/\PySem.Within mA (fs.map (·.1))/\fs.length<=1000/\H dx=some (.own a):=by
 obtain⟨d,z,ne,ob,mA,n,r,q⟩:=(show bT P w H h a (.ins C dx fs)from hok a _ e);exact⟨mA,⟨ob,n,ne⟩,r,q,z,d⟩
end
structure Cls (K:Frag)(C:Addr):Prop where
 pg:PySem.W.plainGet K C Str.empty=true
 hd:PySem.W.hasDictIn K C=true
 po:PySem.W.plainOver K C=true
 sa:PySem.W.findIn K (.ref C) "__setattr__" = some (some (.builtin "object.__setattr__"))
def Cls.get {K:Frag}{C:Addr}(c:Cls K C)(f:Str):PySem.W.plainGet K C f=true:=c.pg
structure Meth (K:Frag)(C:Addr)(m:Str)(f:Addr):Prop where
 at_:PySem.W.findIn K (.ref C) m=some (some (.ref f))
 fn:PySem.W.isFn K (.ref f)=true
 kp:PySem.W.keepIn K (.ref f)=true
section
variable {X:Cx}{ae:AO}{σ:St}{H:Hp}{s:Shared}{a C dx:Addr}{fs:List (Str×V)}{f:Str}{v:V}{A:Around}{E:QV}
end
section
variable {X:Cx}{o e value:Expr}{f:Str}{pos Go Mr:Pos}{ta tv:TE}
end
section
variable {X:Cx}{ae:AO}{σ:St}{H:Hp}{s:Shared}{A:Around}{E:QV}{Q:QV}{c:Value}{b:Bool}
inductive TyOf (K:Frag)(H:Hp):V->Value->Prop where
 |non:TyOf K H .non (.type "NoneType")
 |bl (x:Bool):TyOf K H (.bl x) (.type "bool")
 |int (i:Int):TyOf K H (.int i) (.type "int")
 |str (x:Str):TyOf K H (.str x) (.type "str")
 |flt (x:UInt64):TyOf K H (.flt x) (.type "float")
 |lst {a:Addr}{xs:List V}(e:H a=some (.lst xs)):TyOf K H (.ref a) (.type "list")
 |frz {a:Addr}{o:Obj}{xs:List V}(e:H a=some (.frz o (.lst xs))):TyOf K H (.ref a) (.type "list")
 |tup {a:Addr}{xs:List V}(e:H a=some (.tup xs)):TyOf K H (.ref a) (.type "tuple")
 |dK {a:Addr}{aN:List (eC×V)}{ob:Obj}(e:H a=some (.dK aN ob)):TyOf K H (.ref a) (.type "dict")
 |dT {a:Addr}{aN:List (List eC×V)}(e:H a=some (.dT aN)):TyOf K H (.ref a) (.type "dict")
 |ins {a C dx:Addr}{fs:List (Str×V)}(e:H a=some (.ins C dx fs)) (cl:Cls K C) (ha:PySem.W.findIn K (.ref C) "__class__" = some (some (.builtin "object.__class__")))
   (hn:PySem.W.specialIn K (.builtin "object.__class__") "__get__" = some (some (.builtin "getset_descriptor.__get__"))) (Tg:PySem.W.takesIn K (.builtin "object.__class__")=some true)
   (hm:PySem.W.mroIn K C (.type "object")=some true):TyOf K H (.ref a) (.ref C)
def gR (I:Inv X ae σ H s)(G:aY x u)(ty:TyOf X.K H x t)(e:PySem.W.kitOne X.K t c=some b)(h:∀tk,Q (.bool b) { s with toks:=tk }):
  wpAny (model X.prog X.w) A (call (.builtin "isinstance") [u,c]) Q E s:=by
 cases ty with
 |non=>cases (show u=Value.none from G);exact kia_one PySem.W.kitx_none I.kIn True.intro e (λz=>nomatch z) h
 |bl y=>cases (show u=Value.bool y from G);exact kia_one PySem.W.kitx_bool I.kIn True.intro e (λz=>nomatch z) h
 |int i=>obtain⟨t,q⟩:=(show ∃t,u=Value.int i t from G);cases q;exact kia_one PySem.W.kitx_int I.kIn True.intro e (λz=>nomatch z) h
 |str y=>obtain⟨t,q⟩:=(show ∃t,u=Value.str y t from G);cases q;exact kia_one PySem.W.kitx_str I.kIn True.intro e (λz=>nomatch z) h
 |flt y=>obtain⟨t,q⟩:=(show ∃t,u=Value.float y t from G);cases q;exact kia_one PySem.W.kitx_float I.kIn True.intro e (λz=>nomatch z) h
 |@lst a xs M=>
  cases (show u=Value.ref a from G)
  obtain⟨_,_,n,_,h1⟩:=(show bT X.prog X.w H s.heap a (.lst xs)from I.hok a _ M);exact kia_one PySem.W.kitx_list I.kIn ⟨_,h1,rfl⟩ e (λz=>nomatch z) h
 |@frz a ob xs M=>
  cases (show u=Value.ref a from G)
  obtain⟨_,_,_,n,_,h1⟩:=(show bT X.prog X.w H s.heap a (.frz ob (.lst xs))from I.hok a _ M);exact kia_one PySem.W.kitx_list I.kIn ⟨_,h1,rfl⟩ e (λz=>nomatch z) h
 |@tup a xs M=>
  cases (show u=Value.ref a from G)
  obtain⟨_,_,_,p⟩:=(show bT X.prog X.w H s.heap a (.tup xs)from I.hok a _ M);obtain⟨o,h1,h2,_⟩:=p;exact kia_one PySem.W.kitx_tuple I.kIn ⟨o,h1,h2⟩ e (λz=>nomatch z) h
 |@dK a aN ob M=>
  cases (show u=Value.ref a from G)
  obtain⟨_,_,_,vs,_,p⟩:=(show bT X.prog X.w H s.heap a (.dK aN ob)from I.hok a _ M);obtain⟨o,es,T,h1,h2,_⟩:=p;exact kia_one PySem.W.kitx_dict I.kIn ⟨o,h1,h2.1⟩ e (λz=>nomatch z) h
 |@dT a aN M=>
  cases (show u=Value.ref a from G)
  obtain⟨_,_,xs,_,o,es,T,h1,h2,_⟩:=(show bT X.prog X.w H s.heap a (.dT aN)from I.hok a _ M);exact kia_one PySem.W.kitx_dict I.kIn ⟨o,h1,h2.1⟩ e (λz=>nomatch z) h
 |@ins a C dx fs M cl ha hn Tg hm=>
  cases (show u=Value.ref a from G)
  obtain⟨mA,O,_⟩:=A5 I.hok M;obtain⟨od,J,_⟩:=O.look;exact kia_one (PySem.W.kitx_own (cl.get _) cl.hd ha hn Tg hm) I.kIn J e (λz=>nomatch z) h
end
structure fg (k:Nat)(A:Around):Prop where
 hd:A.handled=none
 dp:A.depth+3*k+5<recursionLimit
 un:A.units+16*k+200<cLine
def fg.mono (r:fg k A)(h:j<=k):fg j A:=⟨r.hd,by have:=r.dp;omega,by have:=r.un;omega⟩
def fg.deeper (r:fg (k+1) A)(env:Env):fg k (A.deeper env) :=
 ⟨r.hd,by have:=r.dp;show A.depth+1+3*k+5<_;omega,by have:=r.un;show A.units+3+16*k+200<_;omega⟩
def fg.in1 (r:fg (k+1) A):fg k A.in1 :=
 ⟨r.hd,by have:=r.dp;show A.depth+3*k+5<_;omega,by have:=r.un;show A.units+1+16*k+200<_;omega⟩
def fg.depth (r:fg k A):A.depth<recursionLimit:=by have:=r.dp;omega
def KZ:TA:=λ_ H Q=>Q [] H
def DM (G:TE)(M:TA):TA:=λσ H Q=>G σ H λx O=>M σ O λxs H2=>Q (x::xs) H2
section
variable {X:Cx}{e:Expr}{es:QD}{te:TE}{t:TA}{pos:Pos}
def jy:PA X [] KZ:=λ_ _ _ _ H Q I h=>Calls.spliced_nil ⟨[],H,I,.nil,h⟩
def gN (ha:PE X e te)(hr:PA X es t)(hs:starEach (e::es) X.env=(false,eval e X.env)::starEach es X.env:=by rfl):PA X (e::es) (DM te t):=by
 intro pos ae s σ H Q I h;rw[hs];show wpAny _ _ (spliced ((false,eval e X.env)::backTo pos (starEach es X.env))) _ _ s;refine Calls.spliced_cons (cn (ha ae s σ H _ I h) λu s1 ⟨x,G,I1,M,O⟩=>?_);exact cn (hr pos ae s1 σ G _ I1 O) λus s2 ⟨xs,H2,I2,T,U⟩=>⟨x::xs,H2,I2,.cons M T,U⟩
def NB (t:TA):TE:=λσ H Q=>t σ H λxs G=>xs.length<=sizeLine/\∀p,G p=none->Q (.ref p) (upd G p (.tup xs))
def NC (t:TA):TE:=λσ H Q=>t σ H λxs G=>xs.length<=sizeLine/\∀p,G p=none->Q (.ref p) (upd G p (.lst xs))
def z4 {x1}(h:PA X es t):PE X (.Tuple es x1 pos) (NB t):=by
 intro ae s σ H Q I hq;refine wpAny_Tuple_spliced (cn (h pos ae s σ H _ I hq) λus s1 ⟨xs,G,I1,r,z,q⟩=>⟨by rw[←r.length];exact z,?_⟩);have hf:G s1.heap.objs.size=none:=I1.hok.fresh (vT _);refine⟨.ref s1.heap.objs.size,upd G s1.heap.objs.size (.tup xs),I1.laid (t':=s1.toks) (λb u e=>vZ _ e) (vT _) ?_,rfl,q _ hf⟩;exact⟨z,us,r,⟨_,vY _ rfl,rfl,_,rfl⟩⟩
def DN (h:PA X es t):PE X (.List es pos) (NC t):=by
 intro ae s σ H Q I hq;refine wpAny_List_spliced (cn (h pos ae s σ H _ I hq) λus s1 ⟨xs,G,I1,r,z,q⟩=>⟨by rw[←r.length];exact z,?_⟩);have hf:G s1.heap.objs.size=none:=I1.hok.fresh (vT _);refine⟨.ref s1.heap.objs.size,upd G s1.heap.objs.size (.lst xs),I1.laid (t':=s1.toks) (λb u e=>vZ _ e) (vT _) ?_,rfl,q _ hf⟩;exact⟨z,us,0,r,vY _ rfl⟩
end
abbrev Sp:=List V->Hp->VK->XK->Prop
abbrev J6:=List Env->Hp->Shared->XK->QV
structure Env0 (P:Program)(w:World)(K:Frag)(mg:Str->Option Value)(base:Heap)(A:Around)(outer:List Env)(s:Shared)(H:Hp):Prop where
 frames:A.frames=some outer
 mod:Mod K mg base
 bs:∀b o,base.get? b=some o->s.heap.get? b=some o/\H b=none
 bsz:base.objs.size<=s.heap.objs.size
 funs:s.heap.FunFrames base outer
 frf:∀b∈D0 outer,H b=none
 hok:lf P w H s.heap
 bare:AllBare s.gens
def CE (outer:List Env)(P:Program)(w:World)(H:Hp)(s:Shared)(Q:VK)(u:Value)(s':Shared):Prop :=
 ∃v H',s'.os=s.os/\AllBare s'.gens/\Un (D0 outer) [] H H' s.heap s'.heap/\lf P w H' s'.heap/\aY v u/\Q v H'
def CR (CX:J6)(outer:List Env)(P:Program)(w:World)(H:Hp)(s:Shared)(Q:VK)(E:XK)(r:Result)(s':Shared):Prop :=
 match r with
 |.ok (.ret u)=>CE outer P w H s Q u s'
 |.ok _=>False
 |.error e=>CX outer H s E e s'
structure su (P:Program)(w:World)(K:Frag)(mg:Str->Option Value)(base:Heap)(CX:J6)(k:Nat)(f:Addr)(fd:FuncData)(ps:List Str)(sp:Sp):Prop where
 len:∀vs H Q E,sp vs H Q E->vs.length=ps.length
 run:∀(A:Around)(outer:List Env)(s:Shared)(H:Hp)(args:Args)(us:List Value)(vs:List V)(Q:VK)(E:XK),fg k A->Env0 P w K mg base A outer s H->BindsTo s fd args (ps.zip us)->ba vs us->sp vs H Q E ->
  codeAny (model P w) A (.call (.ref f) args) (CR CX outer P w H s Q E) s
section
variable {X:Cx}{ae:AO}{σ:St}{H:Hp}{s s':Shared}
def Inv.env0 (I:Inv X ae σ H s):Env0 X.prog X.w X.K X.mg X.base X.A X.stack s H :=
 ⟨I.ok.frames,I.ok.mod,I.bs,vR I.ok.bsz I.sz,I.stack,I.stkFree,I.hok,I.bare⟩
def Inv.after (I:Inv X ae σ H s)(h:CE X.stack X.prog X.w H s Q u s'):EP X ae σ Q u s':=by
 obtain⟨v,H',os,bare,un,hok,r,q⟩:=h;obtain⟨hh,g,d,t,G⟩:=s';obtain rfl:G=s.os:=os;exact⟨v,H',I.call (h':=hh) (g':=g) (d':=d) (t':=t) (ch:=[]) un hok bare (λb z=>absurd z (by simp)),r,q⟩
end
def ND (sp:Sp)(G:List V)(E:XK)(t:TA):TE:=λσ H Q=>t σ H λvs M=>sp (vs++G) M Q E
def sC (K:Frag)(fd:FuncData)(ps:LS)(ds:LU):Prop :=
 ∀(s:Shared)(us:LU),K.In s.heap->(us++ds).length=ps.length->BindsTo s fd ⟨us,[]⟩ (ps.zip (us++ds))
def sC.all {K:Frag}{fd:FuncData}{ps:LS}(h:∀us:LU,us.length=ps.length->bindArgs fd ⟨us,[]⟩=pure (ps.zip us)):sC K fd ps []:=λs us _ hl=>by
 rw[uQ]at hl ⊢;exact .of_eq (h us hl)
def z5 (CX:J6)(X:Cx)(E:XK):Prop:=∀(ae:AO)(σ:St)(H:Hp)(s:Shared)(e:Value)(s':Shared),Inv X ae σ H s->CX X.stack H s E e s'->X.xe e s'
section
variable {X:Cx}{CX:J6}{k:Nat}{f C:Addr}{fd:FuncData}{ps:LS}{sp:Sp}{Ms:List V}{ds:LU}{E:XK}{x m:Str}{p pos di:Pos}{e o:Expr}{es:QD}{ta:TE}{t:TA}
def La {ae:AO}{σ:St}{H:Hp}{s:Shared}{Q:VK}{us:LU}{vs:List V}(F:su X.prog X.w X.K X.mg X.base CX k f fd ps sp)(hr:fg k X.A)(hb:sC X.K fd ps ds)(hd:ba Ms ds)(hx:z5 CX X E)
  (I:Inv X ae σ H s) (r:ba vs us) (h:sp (vs++Ms) H Q E):wq X (call (.ref f) us) (EP X ae σ Q) X.xe s:=by
 have G:ba (vs++Ms) (us++ds):=r.append hd;have hl:(us++ds).length=ps.length:=by rw[←G.length];exact F.len _ _ _ _ h
 refine wpAny_call (codeAny_mono (F.run X.A X.stack s H ⟨us,[]⟩ (us++ds) (vs++Ms) Q E hr I.env0 (hb s us I.kIn hl) G h) λr s' hq=>?_);cases r with
 |error e=>exact hx ae σ H s e s' I hq
 |ok fl=>
  cases fl with
  |ret u=>exact I.after hq
  |next=>exact False.elim hq
  |brk=>exact False.elim hq
  |cont=>exact False.elim hq
def GI (F:su X.prog X.w X.K X.mg X.base CX k f fd ps sp)(hr:fg k X.A)(O:Gl X x)(hm:X.mg x=some (.ref f))(hk:PySem.W.keepIn X.K (.ref f)=true)(hb:sC X.K fd ps ds)(hd:ba Ms ds)(hx:z5 CX X E)
  (ha:PA X (e::es) t) (G:(x == ("__debug__" : Str))=false:=by decide) (he:starEach (e::es) X.env=(false,eval e X.env)::starEach es X.env:=by rfl) (M:(backTo pos (starEach es X.env)).any (·.1)=false:=by rfl):
  PE X (.Call (.Name x p) (e::es) [] pos) (ND sp Ms E t):=by
 intro ae s σ H Q I h;refine wpAny_Call_Name_kw (ur I O hm ?_ G);refine PySem.W.callWith_K (h₀:=X.base) I.ok.mod.kin hk (cn (ha pos ae s σ H _ I h) λus s1 ⟨vs,T,I1,r,q⟩=>⟨I1.kIn,?_⟩) he M;exact La F hr hb hd hx I1 r q
end
structure FnScope (N P:List Str)(sc:Scope):Prop where
 kind:sc.kind=.function
 co:sc.isCoroutine=false
 gen:sc.isGenerator=false
 nd:N.Nodup
 pre:N.take P.length=P
 par:∀x∈P,sc.names.lookup x=some .local∨sc.names.lookup x=some .cell
 nofree:∀y∈sc.names,y.2≠.free
theorem sD {kindOf:Str->Option NameKind}{x:Str}:∀ {binds:List (Str×Value)}{m:SV},(∀v,(x,v)∉binds)->bindL kindOf binds m x=m x
 |[],_,_=>rfl
 | (n,v)::r,m,h=>by
  unfold bindL;rw[sD λw hw=>h w (mZ _ hw)];split
  ·have:x≠n:=by rintro rfl;exact h v mX
   simp[this]
  ·rfl
theorem sE {kindOf:Str->Option NameKind}{x:Str}:∀ {binds:List (Str×Value)}{m:SV},(∀v,(x,v)∉binds)->bindC kindOf binds m x=m x
 |[],_,_=>rfl
 | (n,v)::r,m,h=>by
  unfold bindC;rw[sE λw hw=>h w (mZ _ hw)];split
  ·rfl
  ·have:x≠n:=by rintro rfl;exact h v mX
   simp[this]
theorem sG {kindOf:Str->Option NameKind}{x:Str}{v:Value}:∀ {P:LS}{vs:LU}{i:Nat}{m:SV},P.Nodup->P[i]? = some x->vs[i]? = some v->kindOf x=some .local ->
  bindL kindOf (P.zip vs) m x=some v
 |[],_,_,_,_,h,_,_=>by simp at h
 |_::_,[],_,_,_,_,h,_=>by simp at h
 |p::P,w::vs,0,m,nd,h1,h2,hk=>by
  simp at h1 h2;subst h1;subst h2;show bindL kindOf ((p,w)::P.zip vs) m p=_;unfold bindL;rw[sD λv hv=>(nodup_cons.mp nd).1 (of_mem_zip hv).1,if_pos hk];simp
 |p::P,w::vs,i+1,m,nd,h1,h2,hk=>by
  show bindL kindOf ((p,w)::P.zip vs) m x=_;unfold bindL;exact sG (i:=i) (nodup_cons.mp nd).2 (by simpa using h1) (by simpa using h2) hk
theorem sJ {kindOf:Str->Option NameKind}{x:Str}{v:Value}:∀ {P:LS}{vs:LU}{i:Nat}{m:SV},P.Nodup->P[i]? = some x->vs[i]? = some v->kindOf x≠some .local ->
  bindC kindOf (P.zip vs) m x=some v
 |[],_,_,_,_,h,_,_=>by simp at h
 |_::_,[],_,_,_,_,h,_=>by simp at h
 |p::P,w::vs,0,m,nd,h1,h2,hk=>by
  simp at h1 h2;subst h1;subst h2;show bindC kindOf ((p,w)::P.zip vs) m p=_;unfold bindC;rw[sE λv hv=>(nodup_cons.mp nd).1 (of_mem_zip hv).1,if_neg hk];simp
 |p::P,w::vs,i+1,m,nd,h1,h2,hk=>by
  show bindC kindOf ((p,w)::P.zip vs) m x=_;unfold bindC;exact sJ (i:=i) (nodup_cons.mp nd).2 (by simpa using h1) (by simpa using h2) hk
noncomputable def jJ (N:LS)(vs:List V):St:=vs.map some++List.replicate (N.length - vs.length) none
noncomputable def oC (CX:J6)(P:Program)(w:World)(K:Frag)(mg:SV)(base:Heap)(N:LS)(qual:Str)(scope:Scope)(f:Addr)(cd:Value)(A:Around)(outer:List Env)(s:Shared)(H:Hp)(E:XK):Cx where
 prog:=P
 w:=w
 K:=K
 mg:=mg
 base:=base
 A:=A.deeper (envOfC qual scope s.heap.objs.size f cd)
 N:=N
 s₀:=s
 H₀:=H
 env:=envOfC qual scope s.heap.objs.size f cd
 outer:=outer
 stack:=envOfC qual scope s.heap.objs.size f cd::outer
 ex:=[]
 calm:=true
 fn:=λ_=>true
 pn:=[]
 xe:=λe s'=>wpAny (model P w) (A.deeper (envOfC qual scope s.heap.objs.size f cd)) (leaving (envOfC qual scope s.heap.objs.size f cd) e) (λ_ G=>CX outer H s E e G) (λM G=>CX outer H s E M G) s'
def wU {sc:Scope}{n:Nat}{x:Str}(h:sc.names.lookup x=some .cell):∃c,(cellsFrom n sc.names []).lookup x=some c:=by
 have q:=PySem.W.cellsFrom_some sc.names n [] (.inl h);exact uU q
def Cr {CX:J6}{P:Program}{w:World}{K:Frag}{mg:SV}{base:Heap}{N ps:LS}{qual:Str}{scope:Scope}{f:Addr}{cd:Value}{A:Around}{outer:List Env}{s s1:Shared}{H:Hp}{E:XK}{us:LU}{vs:List V}
  (S:FnScope N ps scope) (hd:A.handled=none) (G:Env0 P w K mg base A outer s H) (hl:vs.length=ps.length) (r:ba vs us)
  (x:InCallC s s.heap.objs.size (bindL (envOfC qual scope s.heap.objs.size f cd).kindOf (ps.zip us) λ_=>none) (cellsFrom (s.heap.objs.size+1) scope.names []) (bindC (envOfC qual scope s.heap.objs.size f cd).kindOf (ps.zip us) λ_=>none) s1):
  Inv (oC CX P w K mg base N qual scope f cd A outer s H E) [] (jJ N vs) H s1:=by
 have T:ps.length<=N.length:=by have:=congrArg List.length S.pre;rw[length_take]at this;omega
 obtain⟨h1,tk,rfl,hk⟩:=x.done;have M:∀b:Addr,b∉(oC CX P w K mg base N qual scope f cd A outer s H E).ex:=λb z=>absurd (show b∈([]:List Addr)from z) (by simp);refine⟨⟨G.mod,S.kind,rfl,rfl,vT _,λy z c h1 h2=>?_,λy hy=>?_,λy c _ h=>?_,λ_=>hd,Around.frames_deeper G.frames,.inr ⟨rfl,rfl⟩,λb z=>absurd z (M b),G.bs,G.bsz,λb _ _=>M b,λb z=>absurd z (M b),G.funs,G.frf⟩,
  rfl,G.bare,Un.kept hk,⟨_,x.toInCall.ns,λi y v h1 h2 h3=>?_⟩,λy c h=>⟨_,x.cell y c h⟩,G.hok.fresh (vT _),λy c h=>?_,λp hp=>absurd (show p∈([]:AO)from hp) (by simp),G.hok.kept hk,?_⟩
 ·exact name_of_addr x.apart (PySem.mem_of_lookup h1) (PySem.mem_of_lookup h2)
 ·have hy:scope.names.lookup y=some .cell∨scope.names.lookup y=some .free:=hy;rcases hy with hy|hy
  ·exact wU hy
  ·exact absurd rfl (S.nofree _ (PySem.mem_of_lookup hy))
 ·exact le_of_lt (x.above y c (PySem.mem_of_lookup h))
 ·have hi:i<vs.length:=by
   unfold jJ at h2;by_cases hi:i<vs.length
   ·exact hi
   ·rw[List.getElem?_append_right (by simpa using hi)]at h2;rw[getElem?_replicate]at h2;split at h2<;>cases h2
  have ha:vs[i]? = some v:=by
   unfold jJ at h2;rw[getElem?_append_left (by simpa using hi),vA]at h2;cases e:vs[i]? with
   |none=>rw[e]at h2;cases h2
   |some a=>rw[e]at h2;cases h2;rfl
  obtain⟨u,hu,U⟩:=r.get ha;have hp:ps[i]? = some y:=by
   rw[←S.pre,List.getElem?_take_of_lt (by omega)];exact h1
  have O:ps.Nodup:=by rw[←S.pre];exact S.nd.sublist (take_sublist _ _)
  refine⟨u,U,?_⟩;rcases S.par y (vL hp)with k|k
  ·exact .inl ⟨k,sG O hp hu k⟩
  ·obtain⟨c,e⟩:=wU (n:=s.heap.objs.size+1) k;refine .inr ⟨.inl k,c,e,?_⟩;have q:=x.cell y c e;rw[sJ O hp hu (by show scope.names.lookup y≠_;rw[k];decide)]at q;exact q
 ·exact G.hok.fresh (le_of_lt (x.above y c (PySem.mem_of_lookup h)))
 ·unfold jJ;show _=N.length;rw[uZ,vI,length_replicate];omega
def J7 {CX:J6}{P:Program}{w:World}{K:Frag}{mg:SV}{base:Heap}{k:Nat}{f:Addr}{name qual:Str}{params:Arguments}{G:List Stmt}{scope:Scope}{dV kV doc pm eP ct oc:Value}{an od:Option Addr}
  {oA:Array (Option Value)}{N ps:LS}{sp:Sp}(lk:K.lookup f=some ⟨oc,od,.func (fnOf name qual params G scope dV kV doc pm an eP ct),oA⟩) (Mt:PySem.W.codeIn K eP qual=true) (S:FnScope N ps scope)
  (len:∀vs H Q E,sp vs H Q E->vs.length=ps.length)
  (O:∀(A:Around)(outer:List Env)(s:Shared)(H:Hp)(vs:List V)(Q:VK)(E:XK),fg k (A.deeper (envOfC qual scope s.heap.objs.size f eP))->sp vs H Q E ->
   ∃t,sy (oC CX P w K mg base N qual scope f eP A outer s H E) G t/\t { nx:=λ_ H'=>Q .non H',rt:=Q } (jJ N vs) H):
  su P w K mg base CX (k+1) f (fnOf name qual params G scope dV kV doc pm an eP ct) ps sp:=by
 refine⟨len,λA outer s H args us vs Q E hr U hb r PD=>?_⟩;have hl:=len _ _ _ _ PD;have KX:K.In s.heap:=U.mod.kin.keeps λb o e=>(U.bs b o e).1;have Vs:s.heap.NoLimit:=U.mod.nolimit.keeps λb o e=>(U.bs b o e).1;have T:∀y∈ps.zip us,scope.names.lookup y.1=some .local∨(scope.names.lookup y.1=some .cell/\((cellsFrom (s.heap.objs.size+1) scope.names []).lookup y.1).isSome=true):=λ⟨n,v⟩ hy=>by
  rcases S.par n (of_mem_zip hy).1 with q|q
  ·exact .inl q
  ·exact .inr ⟨q,PySem.W.cellsFrom_some _ _ _ (.inl q)⟩
 refine codeAny_call_function hr.depth (KX _ _ lk) rfl S.co S.gen rfl (PySem.W.codeRec_of KX Mt) (hb _ _ _ _ ?_);refine wpAny_newFunctionEnv_cells S.kind T λenv he s1 x=>?_;subst he;refine⟨Vs.keeps x.toInCall.keep,codeAny_func ?_⟩;obtain⟨t,ht,hq⟩:=O A outer s H vs Q E (hr.deeper _) PD;have I:Inv (oC CX P w K mg base N qual scope f eP A outer s H E) [] (jJ N vs) H s1:=Cr S hr.hd U hl r x;refine wpAny_mono (ht [] s1 (jJ N vs) H _ I hq) (λfl s' hs=>?_) λe s' hs=>hs;have iB:∀ {M:St}{H':Hp}{v:V}{u:Value},Inv (oC CX P w K mg base N qual scope f eP A outer s H E) [] M H' s'->aY v u->Q v H'->CE outer P w H s Q u s' :=
  λ{M H' v u} J rv q=>⟨v,H',J.os,J.bare,J.base,J.hok,rv,q⟩
 cases fl with
 |ret u=>
  obtain⟨v,M,H',J,rv,q⟩:=hs;exact iB J rv q
 |next=>
  obtain⟨M,H',J,q⟩:=hs;exact iB (v:=V.non) (u:=Value.none) J rfl q
 |brk=>
  obtain⟨_,_,_,q⟩:=hs;exact False.elim q
 |cont=>
  obtain⟨_,_,_,q⟩:=hs;exact False.elim q
section
variable {X:Cx}{x:Str}{p pos:Pos}{e:Expr}{es:QD}{t:TA}{id T:String}{r:List V->Hp->VK->Prop}
def S2 (r:List V->Hp->VK->Prop)(t:TA):TE:=λσ H Q=>t σ H λvs G=>r vs G Q
def wV (hc:bW X (.builtin id) r)(O:Gl X x)(hm:X.mg x=none)(hv:bootBuiltins x=some (.builtin id))(ha:PA X (e::es) t)(hn:x ≠ "__name__":=by decide)(G:(x == ("__debug__" : Str))=false:=by decide)
  (he:starEach (e::es) X.env=(false,eval e X.env)::starEach es X.env:=by rfl) (M:(backTo pos (starEach es X.env)).any (·.1)=false:=by rfl):PE X (.Call (.Name x p) (e::es) [] pos) (S2 r t):=by
 intro ae s σ H Q I h;refine wpAny_Call_Name_kw (gX I O hm hv ?_ hn G);exact PyProof.Rows.callWith_builtin1 (cn (ha pos ae s σ H _ I h) λus s1 ⟨vs,U,I1,r1,q1⟩=>hc ae s1 σ U vs us Q I1 r1 q1) he M
def sK (hc:bW X (.type T) r)(O:Gl X x)(hm:X.mg x=none)(hv:bootBuiltins x=some (.type T))(ha:PA X (e::es) t)(hn:x ≠ "__name__":=by decide)(G:(x == ("__debug__" : Str))=false:=by decide)
  (he:starEach (e::es) X.env=(false,eval e X.env)::starEach es X.env:=by rfl) (M:(backTo pos (starEach es X.env)).any (·.1)=false:=by rfl):PE X (.Call (.Name x p) (e::es) [] pos) (S2 r t):=by
 intro ae s σ H Q I h;refine wpAny_Call_Name_kw (gX I O hm hv ?_ hn G);exact PyProof.Rows.callWith_type1 (cn (ha pos ae s σ H _ I h) λus s1 ⟨vs,U,I1,r1,q1⟩=>hc ae s1 σ U vs us Q I1 r1 q1) he M
end
end L2
namespace HT
open PySem PyProof.Rows
section
open PySem.SeqAt
open PySem.AutoSeq1 (wpAny_loadPart')
open PySem.MeetsSeq PySem.MeetsSeq2 PySem.MeetsSeq3
end
section
variable {prog:Program}{w:World}{A:Around}{E:QV}{s:Shared}
def GJ (ht:IsTup s.heap t vs.toArray)(hb:IsTup s.heap b ws.toArray)(hv:vs≠[])
  (h1:ws=[]->Q (.ref t) s) (h2:ws≠[]->Q (.ref s.heap.objs.size) { s with heap:=s.heap.push { cls:=.type "tuple",data:=.seq (vs++ws).toArray } })
  (hsz:vs.length+ws.length<=sizeLine):wpAny (model prog w) A (binaryOp .Add (.ref t) (.ref b)) Q E s:=by
 obtain⟨⟨cls,dd,data,sl⟩,ho,hc,n,hd⟩:=id ht;obtain⟨⟨Rh,M,data2,O⟩,G,T,n2,U⟩:=id hb;simp only at hc hd T U;subst hc hd T U;have e:vs.toArray++ws.toArray=(vs++ws).toArray:=by simp
 by_cases hw:ws=[]
 ·exact concat_meets ⟨_,ho,rfl⟩ ⟨_,G,rfl⟩ noFill_tuple_add seq_tuple_add slot_tuple_add entry_tuple_add (args_tuple_add_2 _ _)
   (tuple_addW1 t b vs.toArray ws.toArray n n2 dd M sl O (by simpa using hv) (by simp[hw])) ⟨ho,G,h1 hw⟩
 ·refine concat_meets ⟨_,ho,rfl⟩ ⟨_,G,rfl⟩ noFill_tuple_add seq_tuple_add slot_tuple_add entry_tuple_add (args_tuple_add_2 _ _)
   (tuple_addW2 t b vs.toArray ws.toArray n n2 dd M sl O (by simpa using hv) (by simpa using hw) (by rw[vH,vH];exact hsz)) ⟨ho,G,?_⟩
  rw[e];exact h2 hw
noncomputable def eD (n d:Nat):OI->Nat
 |none=>d
 |some v=>if v<0 then (v+(n:Int)).toNat else min v.toNat n
def Lb (n d:Nat)(hd:d<=n)(o:OI):eD n d o<=n:=by
 cases o with
 |none=>exact hd
 |some v=>
  show(if v<0 then (v+(n:Int)).toNat else min v.toNat n)<=n;by_cases hv:v<0
  ·rw[if_pos hv];omega
  ·rw[if_neg hv];exact Nat.min_le_right _ _
def A6 (v:Int)(n d:Nat):(if v<0 then max (v+(n:Int)) 0 else min v (n:Int))=((eD n d (some v):Nat):Int):=by
 show(if v<0 then max (v+(n:Int)) 0 else min v (n:Int))=(((if v<0 then (v+(n:Int)).toNat else min v.toNat n):Nat):Int);by_cases hv:v<0
 ·simp only[if_pos hv];omega
 ·simp only[if_neg hv];omega
def z6 (lo hi:OI)(n:Nat):Builtin.Slice.sliceAdjust lo hi 1 (n:Int)=(((eD n 0 lo:Nat):Int),((eD n n hi:Nat):Int)):=by
 have h1:¬((1:Int)<0):=by omega
 unfold Builtin.Slice.sliceAdjust;simp only[h1,if_false];refine Prod.ext ?_ ?_
 ·cases lo with
  |none=>rfl
  |some v=>exact A6 v n 0
 ·cases hi with
  |none=>rfl
  |some v=>exact A6 v n n
def z7 (i j:Nat):Builtin.Slice.slicePlaces (i:Int) (j:Int) 1=j - i:=by
 unfold Builtin.Slice.slicePlaces;have h1:(1:Int) > 0:=by omega
 simp only[h1,if_true,Int.ediv_one];split<;>omega
def p0 (p:IsPart v o)(h:Q o s):wpAny (model prog w) A (Builtin.Slice.slicePartIndex v) Q E s:=by
 cases p with
 |none=>exact slicePart_none h
 |int i t=>exact slicePart_int h
def jc {sl:Addr}{vl O:Value}{lo hi:OI}{n:Nat}{Q:Int×Int×Nat->Shared->Prop}(hs:s.heap.IsSliceOf sl vl O .none)(pl:IsPart vl lo)(T:IsPart O hi)
  (h:Q (((eD n 0 lo:Nat):Int),1,eD n n hi - eD n 0 lo) s):wpAny (model prog w) A (Builtin.Slice.sliceApplied (.ref sl) (pure (n:Int))) Q E s:=by
 obtain⟨os,G,U,M⟩:=id hs;unfold Builtin.Slice.sliceApplied Builtin.Slice.sliceFields;refine wX (wX (wpAny_field G M (x:=vl) rfl (wX (wpAny_field G M (x:=O) rfl (wX (wpAny_field G M (x:=.none) rfl (wY ?_)))))));refine wX (slicePart_none ?_);show wpAny _ _ (if((1:Int) == 0)=true then _ else _) _ _ s;rw[if_neg (by decide)];refine wX (p0 pl (wX (p0 T (wX (wY ?_)))));show wpAny _ _ (match Builtin.Slice.sliceAdjust lo hi 1 (n:Int) with|(lo,hi)=>pure (lo,(1:Int),Builtin.Slice.slicePlaces lo hi 1)) _ _ s;rw[z6 lo hi n];show wpAny _ _ (pure (((eD n 0 lo:Nat):Int),(1:Int),Builtin.Slice.slicePlaces ((eD n 0 lo:Nat):Int) ((eD n n hi:Nat):Int) 1)) _ _ s;rw[z7];exact wY h
def DO (xs:AV)(i k:Nat):((List.range k).filterMap λ(m:Nat)=>xs[((i:Int)+(m:Int)*1).toNat]?).toArray=((xs.toList.drop i).take k).toArray:=by
 have e:(λ(m:Nat)=>xs[((i:Int)+(m:Int)*1).toNat]?)=λm=>xs[i+m]?:=by
  funext m;have:((i:Int)+(m:Int)*1).toNat=i+m:=by omega
  rw[this]
 rw[e];have:=pick_run xs i k;rw[List.filterMap_map]at this;have e2:((λx=>xs[x]?) ∘ λx=>i+x)=λm=>xs[i+m]?:=rfl;rw[e2]at this;rw[this]
def lW {t sl:Addr}{items:AV}{vl vu:Value}{lo hi:OI}{Q:QV}(M:IsTup s.heap t items)(hs:s.heap.IsSliceOf sl vl vu .none)(pl:IsPart vl lo)(pu:IsPart vu hi)
  (hw:¬(eD items.size 0 lo=0/\eD items.size items.size hi=items.size))
  (h:Q (.ref s.heap.objs.size) { s with heap:=s.heap.push { cls:=.type "tuple",data:=.seq ((items.toList.drop (eD items.size 0 lo)).take (eD items.size items.size hi - eD items.size 0 lo)).toArray } })
  (hsz:items.size<=sizeLine):wpAny (model prog w) A (getItem (.ref t) (.ref sl)) Q E s:=by
 have G:sizeOk (.seq ((items.toList.drop (eD items.size 0 lo)).take (eD items.size items.size hi - eD items.size 0 lo)).toArray):=by
  show((items.toList.drop (eD items.size 0 lo)).take (eD items.size items.size hi - eD items.size 0 lo)).toArray.size<=sizeLine
  rw[vH,length_take,length_drop,vG]
  omega
 have hj:eD items.size items.size hi<=items.size:=Lb _ _ (vT _) hi
 obtain⟨os,O,T,Ri⟩:=id hs
 have U:s.TypeIs (.ref sl) "slice":=⟨os,O,T⟩
 unfold getItem
 try with_reducible refine wpAny_holding ?_
 first|refine wX (wY ?_)|skip
 refine wX (wpAny_sequenceKey M.typeIs (by decide) ?_)
 refine wX (wpAny_callSpecial?_slot (name:=Str.ofString "__getitem__") M.typeIs PyProof.Rows.slot_tuple_getitem
  (wpAny_call_entry PyProof.Rows.slot_tuple_getitem M.typeIs entry_tuple_getitem ?_ (args_tuple_getitem _ _)))
 show wpAny _ _ (Builtin.Tuple.tupleItemsOf (.ref t)>>=_) _ _ s
 refine wX (tupleItemsOf_ M ?_)
 refine wX (wpAny_typeOf U ?_)
 rw[if_pos (by decide)]
 refine wX (jc hs pl pu ?_)
 have Vt:¬((((eD items.size 0 lo:Nat):Int) == 0 && (1:Int) == 1 && (eD items.size items.size hi - eD items.size 0 lo) == items.size)=true):=by
  intro q
  rw[vC,vC]at q
  have q1:((eD items.size 0 lo:Nat):Int)=0:=eq_of_beq q.1.1
  have q2:eD items.size items.size hi - eD items.size 0 lo=items.size:=eq_of_beq q.2
  exact hw ⟨by omega,by omega⟩
 show wpAny _ _ (if(((eD items.size 0 lo:Nat):Int) == 0 && (1:Int) == 1 && (eD items.size items.size hi - eD items.size 0 lo) == items.size)=true then _ else _) _ _ s
 rw[if_neg Vt,DO]
 first
  |exact wX (m:=Builtin.Tuple.tupleExact _) (wpAny_newObj_type (wY ⟨_,rfl,wY h⟩) G)
  |exact wX (m:=Builtin.Tuple.tupleExact _) (wpAny_newObj_type (wX (wY (wY ⟨_,rfl,wY h⟩))) G)
  |exact wX (wX (m:=Builtin.Tuple.tupleExact _) (wpAny_newObj_type (wY (wY ⟨_,rfl,wY h⟩)) G))
  |exact wX (wX (m:=Builtin.Tuple.tupleExact _) (wpAny_newObj_type (wY ⟨_,rfl,wY h⟩) G))
end
end HT
namespace L2
open PySem PySem.Spec PyProof.Rows
abbrev TO:=St->Hp->(OI->Hp->Prop)->Prop
def PO (X:Cx)(e:Option Expr)(t:TO):Prop :=
 ∀(ae:AO)(s:Shared)(σ:St)(H:Hp)(Q:OI->Hp->Prop),Inv X ae σ H s->t σ H Q ->
  wq X (evalPart e X.env) (λu s'=>∃o H',Inv X ae σ H' s'/\IsPart u o/\Q o H') X.xe s
def GK:TO:=λ_ H Q=>Q none H
def NE (t:TE):TO:=λσ H Q=>t σ H λx G=>∃i,x=.int i/\Q (some i) G
section
variable {X:Cx}{e:Expr}{te:TE}{lo hi:Option Expr}{tl th:TO}{pos p2:Pos}
def GL:PO X none GK:=by
 intro ae s σ H Q I h;rw[evalPart_none];exact wY ⟨none,H,I,.none,h⟩
def A7 (h:PE X e te):PO X (some e) (NE te):=by
 intro ae s σ H Q I hw;rw[evalPart_some];refine cn (h ae s σ H _ I hw) λu s1 ⟨x,G,I1,M,O⟩=>?_;obtain⟨i,rfl,q⟩:=O;obtain⟨t,rfl⟩:=M;exact⟨some i,G,I1,.int i t,q⟩
def D1 (X:Cx)(r:V->OI->OI->Hp->VK->Prop):Prop :=
 ∀(ae:AO)(s:Shared)(σ:St)(H:Hp)(x:V)(v vl G:Value)(lo hi:OI)(sl:Addr)(Q:VK),Inv X ae σ H s->aY x v->s.heap.IsSliceOf sl vl G .none->IsPart vl lo->IsPart G hi->r x lo hi H Q ->
  ∃T id,typeLookup (.type T) "__getitem__" = pure (some (.builtin id))/\s.TypeIs v T/\wq X (getItem v (.ref sl)) (EP X ae σ Q) X.xe s
def D1.or (h:D1 X r)(h':D1 X r'):D1 X (λx lo hi H Q=>r x lo hi H Q∨r' x lo hi H Q):=by
 intro ae s σ H x v vl G lo hi sl Q I M hs pl O q;rcases q with q|q
 ·exact h ae s σ H x v vl G lo hi sl Q I M hs pl O q
 ·exact h' ae s σ H x v vl G lo hi sl Q I M hs pl O q
def U4 (r:V->OI->OI->Hp->VK->Prop)(te:TE)(tl th:TO):TE:=λσ H Q=>te σ H λx G=>tl σ G λl H2=>th σ H2 λu M=>r x l u M Q
def DP (hr:D1 X r)(he:PE X e te)(hl:PO X lo tl)(hu:PO X hi th):PE X (.Subscript e (.Slice lo hi none p2) pos) (U4 r te tl th):=by
 intro ae s σ H Q I h;refine Subscript_ (cn (he ae s σ H _ I h) λv s1 ⟨x,U,I1,r1,q1⟩=>?_);refine wpAny_Slice (cn (hl ae s1 σ U _ I1 q1) λvl s2 ⟨l,H2,I2,pl,q2⟩=>cn (hu ae s2 σ H2 _ I2 q2) λM G ⟨u,O,I3,pu,q3⟩=>?_);rw[evalPart_none];refine wY ?_;have I4:Inv X ae σ O { G with heap:=G.heap.push { cls:=.type "slice",data:=.fields #[vl,M,.none] } }:=I3.kept (t':=G.toks) λb ob q=>vZ _ q;obtain⟨T,id,hT,ht,hg⟩:=hr ae { G with heap:=G.heap.push { cls:=.type "slice",data:=.fields #[vl,M,.none] } } σ O x v vl M l u G.heap.objs.size Q I4 r1 (Heap.IsSliceOf.new ..) pl pu q3;show wq X (subscriptTail e (.Slice lo hi none p2) v (.ref G.heap.objs.size)) (EP X ae σ Q) X.xe { G with heap:=G.heap.push { cls:=.type "slice",data:=.fields #[vl,M,.none] } };exact tail_any (ops:=[.ref G.heap.objs.size,v]) ht hT hg (by with_unfolding_all rfl)
def rV (xs:List V)(lo hi:OI):List V:=(xs.drop (HT.eD xs.length 0 lo)).take (HT.eD xs.length xs.length hi - HT.eD xs.length 0 lo)
def nQ (xs:List V)(lo hi:OI):(rV xs lo hi).length<=xs.length:=by
 unfold rV;rw[length_take,length_drop];omega
def Qt (K:Frag):V->OI->OI->Hp->VK->Prop:=λx lo hi H Q=>∃a xs,x=.ref a/\iY K H a xs /\
 ¬(HT.eD xs.length 0 lo=0/\HT.eD xs.length xs.length hi=xs.length)/\∀p,H p=none->Q (.ref p) (upd H p (.tup (rV xs lo hi)))
def Lc:D1 X (Qt X.K):=by
 intro ae s σ H x v vl U lo hi sl Q I O hs pl T h;obtain⟨a,xs,rfl,hx,hw,q⟩:=h;cases O
 obtain⟨its,r,M,hz⟩:=I.tuple hx;have G:its.toArray.size=xs.length:=by rw[vH];exact r.length.symm
 refine⟨"tuple",_,PyProof.Rows.slot_tuple_getitem.lookup,M.typeIs,?_⟩;refine HT.lW M hs pl T (by rw[G];exact hw) ?_ (by rw[G];exact hz);rw[G];refine⟨.ref s.heap.objs.size,_,I.laid (t':=s.toks) (o:=.tup (rV xs lo hi)) (λb ob q=>vZ _ q) (vT _) ?_,rfl,q _ (I.hok.fresh (vT _))⟩;exact⟨vR (nQ xs lo hi) hz,_,(r.drop (HT.eD xs.length 0 lo)).take (HT.eD xs.length xs.length hi - HT.eD xs.length 0 lo),IsTup.new _ _⟩
def NF (K:Frag):R2:=λx y H Q=>∃a b xs ys,x=.ref a/\y=.ref b/\iY K H a xs/\iY K H b ys/\xs≠[]/\xs.length+ys.length<=sizeLine /\
 (ys=[]->Q (.ref a) H)/\(ys≠[]->∀p,H p=none->Q (.ref p) (upd H p (.tup (xs++ys))))
def ba.nil_iff (r:ba xs us):us=[]↔xs=[]:=by
 cases r with
 |nil=>simp
 |cons _ _=>simp
def GN:dw X (binaryOp .Add) (NF X.K):=by
 intro ae s σ H x y v u Q I T U h;obtain⟨a,b,xs,ys,rfl,rfl,ha,hb,hx,hz,q1,q2⟩:=h;cases T
 cases U
 obtain⟨its,M,p1,_⟩:=I.tuple ha;obtain⟨O,G,p2,_⟩:=I.tuple hb;refine HT.GJ p1 p2 (λz=>hx (M.nil_iff.mp z)) (λz=>⟨.ref a,H,I,rfl,q1 (G.nil_iff.mp z)⟩) (λz=>?_) (by rw[←M.length,←G.length];exact hz);refine⟨.ref s.heap.objs.size,_,I.laid (t':=s.toks) (o:=.tup (xs++ys)) (λb ob q=>vZ _ q) (vT _) ?_,rfl,q2 (λw=>z (G.nil_iff.mpr w)) _ (I.hok.fresh (vT _))⟩;exact⟨by rw[uZ];exact hz,_,M.append G,IsTup.new _ _⟩
end
def Cs (n:Nat)(i:Int):Option Nat:=if 0<=i then (if i<n then some i.toNat else none)else if -(n:Int)<=i then some (i+n).toNat else none
def nR {α:Type}(xs:List α)(i:Int):Option α:=(Cs xs.length i).bind λj=>xs[j]?
def A8 (h:Cs n i=some j):seqIndex? i n=some j/\j<n/\-(n:Int)<=i/\i<n:=by
 unfold Cs at h;by_cases h0:0<=i
 ·rw[if_pos h0]at h;by_cases h1:i<n
  ·rw[if_pos h1]at h;have e:i.toNat=j:=vK h;exact⟨by rw[seqIndex_of h0 h1,e],by omega,by omega,h1⟩
  ·rw[if_neg h1]at h;cases h
 ·rw[if_neg h0]at h;by_cases h1 : -(n:Int)<=i
  ·rw[if_pos h1]at h;have e:(i+n).toNat=j:=vK h;exact⟨by rw[seqIndex_neg (by omega) h1,e],by omega,h1,by omega⟩
  ·rw[if_neg h1]at h;cases h
def uu {α:Type}{xs:List α}{i:Int}{v:α}(h:nR xs i=some v):∃j,seqIndex? i xs.length=some j/\xs[j]? = some v/\j<xs.length/\-(xs.length:Int)<=i/\i<xs.length:=by
 unfold nR at h;cases e:Cs xs.length i with
 |none=>rw[e]at h;cases h
 |some j=>
  rw[e]at h;obtain⟨h1,h2,h3,h4⟩:=A8 e;exact⟨j,h1,h,h2,h3,h4⟩
def GO {α:Type}{xs:List α}{j:Nat}{v:α}(h:xs[j]? = some v):nR xs (j:Int)=some v:=by
 have hj:j<xs.length:=(vV h).1;have e:Cs xs.length (j:Int)=some j:=by
  unfold Cs;rw[if_pos (by omega),if_pos (by omega)];simp
 unfold nR;rw[e];exact h
def uw (b:Expr):Prop:=∀o i,subscripted b false o i=operate [o,i] (getItem o i)
def Gx (X:Cx)(r:R2):Prop :=
 ∀(M G:Expr)(ae:AO)(s:Shared)(σ:St)(H:Hp)(x y:V)(v u:Value)(Q:VK),Inv X ae σ H s->aY x v->aY y u->r x y H Q ->
  subscripted G false v u=operate [v,u] (getItem v u)->wq X (subscriptTail M G v u) (EP X ae σ Q) X.xe s
def GP (X:Cx)(id:String)(r:V->List V->Hp->VK->Prop):Prop :=
 ∀(ae:AO)(s:Shared)(σ:St)(H:Hp)(x:V)(xs:List V)(v:Value)(us:LU)(Q:VK),Inv X ae σ H s->aY x v->ba xs us->r x xs H Q ->
  wq X (call (.builtin id) (v::us)) (EP X ae σ Q) X.xe s
section
variable {X:Cx}{a b:Expr}{ta tb:TE}{pos:Pos}
def Gx.or (h:Gx X r)(h':Gx X r'):Gx X (λx y H Q=>r x y H Q∨r' x y H Q):=by
 intro G M ae s σ H x y v u Q I O T q hs;rcases q with q|q
 ·exact h G M ae s σ H x y v u Q I O T q hs
 ·exact h' G M ae s σ H x y v u Q I O T q hs
def GP.or {id:String}{r G:V->List V->Hp->VK->Prop}(h:GP X id r)(h':GP X id G):GP X id (λx xs H Q=>r x xs H Q∨G x xs H Q):=by
 intro ae s σ H x xs v us Q I M rs q;rcases q with q|q
 ·exact h ae s σ H x xs v us Q I M rs q
 ·exact h' ae s σ H x xs v us Q I M rs q
def J8 (hr:Gx X r)(ha:PE X a ta)(hb:PE X b tb)(hs:uw b):PE X (.Subscript a b pos) (P0 r ta tb):=by
 intro ae s σ H Q I h;exact Subscript_ (KO ha hb I h λv u s2 x y H2 I2 G M q=>hr a b ae s2 σ H2 x y v u Q I2 G M q (hs _ _))
def Qu (K:Frag):R2:=λx y H Q=>∃p xs i v,x=.ref p/\y=.int i/\fT K H p xs/\nR xs i=some v/\Q v H
def Qv (K:Frag):R2:=λx y H Q=>∃p xs i v,x=.ref p/\y=.int i/\iY K H p xs/\nR xs i=some v/\Q v H
def Qw:R2:=λx y H Q=>∃z i c,x=.str z/\y=.int i/\z.length<=sizeLine/\nR z.cps.toList i=some c/\Q (.str ⟨#[c]⟩) H
def GQ:Gx X (Qu X.K):=by
 intro G M ae s σ H x y v u Q I U ry h hs;obtain⟨p,xs,i,z,rfl,rfl,hq,he,q⟩:=h;cases U
 obtain⟨t,rfl⟩:=ry;obtain⟨its,r,pl,hz⟩:=I.list hq;obtain⟨j,h1,h2,h3,h4,h5⟩:=uu he;obtain⟨w,T,O⟩:=r.get h2;have hl:=r.length;have hn:=mW;have iB:EP X ae σ Q w s:=⟨z,H,I,O,q⟩;by_cases h0:0<=i
 ·have hj:i.toNat=j:=by
   rw[seqIndex_of h0 h5]at h1;exact vK h1
  exact item_listR pl.isList h0 (by omega) (by rw[hj];simpa using T) iB hs
 ·have hj:(i+(its.toArray.size:Int)).toNat=j:=by
   rw[seqIndex_neg (by omega) h4]at h1;rw[vH,←hl];exact vK h1
  exact subscriptTail_builtinR (x:=w) pl.isList.typeIs slot_list_getitem.lookup
   (wpAny_getItem_list_neg (Q:=λr s'=>r=w/\EP X ae σ Q r s') pl.isList (by omega) (by rw[vH]<;>omega) (by omega) (by rw[hj];simpa using T) ⟨rfl,iB⟩) hs
def p5:Gx X (Qv X.K):=by
 intro G M ae s σ H x y v u Q I T U h hs;obtain⟨p,xs,i,z,rfl,rfl,hq,he,q⟩:=h;cases T
 obtain⟨t,rfl⟩:=U;obtain⟨its,r,pl,hz⟩:=I.tuple hq;obtain⟨j,h1,h2,h3,h4,h5⟩:=uu he;obtain⟨w,ew,O⟩:=r.get h2;have hl:=r.length;have hn:=mW;have iB:EP X ae σ Q w s:=⟨z,H,I,O,q⟩;exact subscriptTail_builtinR (x:=w) pl.typeIs slot_tuple_getitem.lookup
  (getItem_tuple (j:=j) (Q:=λr s'=>r=w/\EP X ae σ Q r s') pl (by omega) (by omega) (by rw[vH,←hl];exact h1) (by simpa using ew) ⟨rfl,iB⟩) hs
def z8:Gx X Qw:=by
 intro G M ae s σ H x y v u Q I O T h hs;obtain⟨z,i,c,rfl,rfl,hz,he,q⟩:=h;obtain⟨t,rfl⟩:=O;obtain⟨t',rfl⟩:=T;obtain⟨j,h1,h2,h3,h4,h5⟩:=uu he;have hl:z.cps.toList.length=z.length:=by simp[Str.length]
 rw[hl]at h1 h4 h5;have hn:=mW;exact tail_any (typeIs_str s z t) slot_str_getitem.lookup (getItem_str (c:=c) (by
  have U:decide (i < -(2 ^ 63:Int))=false:=MO (by omega);have e2:decide (i ≥ 2 ^ 63)=false:=MO (by omega);rw[U,e2,Bool.or_false]) (by rw[h1];simpa using h2) ⟨.str ⟨#[c]⟩,H,I.tok _,⟨_,rfl⟩,q⟩) hs
def z9 (its:LU)(n j:Nat)(u:Value):Obj.mapSeq (·.setIfInBounds j u) { cls:=.type "list",data:=.seq its.toArray n }={ cls:=.type "list",data:=.seq (its.set j u).toArray n }:=by
 simp[Obj.mapSeq]
def Inv.lst (I:Inv X ae σ H s)(h:H p=some (.lst xs)):
  ∃(its:LU)(n:Nat),ba xs its/\s.heap.get? p=some { cls:=.type "list",data:=.seq its.toArray n }/\xs.length<=sizeLine:=by
 obtain⟨z,its,n,r,e⟩:=I.hok p _ h;exact⟨its,n,r,e,z⟩
def Inv.lstUpd {ae:AO}{σ:St}{H:Hp}{s:Shared}{p:Addr}{xs ys:List V}{its its':LU}{n G:Nat}{f:Obj->Obj}(I:Inv X ae σ H s)(h:H p=some (.lst xs))
  (ho:s.heap.get? p=some { cls:=.type "list",data:=.seq its.toArray n }) (hf:f { cls:=.type "list",data:=.seq its.toArray n }={ cls:=.type "list",data:=.seq its'.toArray G }) (r:ba ys its') (hz:ys.length<=sizeLine) (t:Nat):
  Inv X ae σ (upd H p (.lst ys)) { s with heap:=s.heap.update p f,toks:=t }:=by
 have e:(s.heap.update p f).get? p=some { cls:=.type "list",data:=.seq its'.toArray G }:=by
  rw[Heap.get?_update_self f ho (by rw[hf]<;>rfl),hf]
 refine I.write (x:=p) (e:=p) (by rw[h];trivial) (.inl rfl) (λb u hb q=>(Heap.get?_update_other _ _ (Ne.symm hb)).trans q) ⟨_,e⟩ ?_;exact⟨hz,its',G,r,e⟩
def NG:V->V->V->Hp->(Hp->Prop)->Prop:=λo i v H Q=>∃p xs k j,o=.ref p/\i=.int k/\H p=some (.lst xs)/\Cs xs.length k=some j/\Q (upd H p (.lst (xs.set j v)))
def DQ:No X NG:=by
 intro ae s σ H o i v U iv u Q I M O T h;obtain⟨p,xs,k,j,rfl,rfl,hp,hj,q⟩:=h;cases M
 obtain⟨t,rfl⟩:=O;obtain⟨its,n,r,ho,hz⟩:=I.lst hp;obtain⟨h1,h2,h3,h4⟩:=A8 hj;have hl:=r.length;have hn:=mW;have G:Inv X ae σ (upd H p (.lst (xs.set j v))) { s with heap:=s.heap.update p (Obj.mapSeq (·.setIfInBounds j u)) } :=
  I.lstUpd hp ho (z9 its n j u) (r.set T j) (by rw[length_set];exact hz) s.toks
 by_cases h0:0<=k
 ·have hk:k.toNat=j:=by
   rw[seqIndex_of h0 h4]at h1;exact vK h1
  exact PySem.W.ki_setAt ho h0 (by omega) (by rw[vH,←hl];exact h4) (by rw[hk];exact⟨_,G,q⟩)
 ·have hk:(k+(its.toArray.size:Int)).toNat=j:=by
   rw[seqIndex_neg (by omega) h3]at h1;rw[vH,←hl];exact vK h1
  exact PySem.W.ki_setBack ho (by omega) (by rw[vH,←hl];exact h3) (by omega) (by rw[hk];exact⟨_,G,q⟩)
def ux (lo hi:OI)(n:Nat):(sliceBounds lo hi none n).1=((HT.eD n 0 lo:Nat):Int)/\(sliceBounds lo hi none n).2.1=((HT.eD n n hi:Nat):Int)/\(sliceBounds lo hi none n).2.2=1:=by
 refine⟨?_,?_,rfl⟩
 ·cases lo with
  |none=>simp[sliceBounds,HT.eD]
  |some i=>
   simp only[sliceBounds,HT.eD,getD_none,show(1:Int) > 0 by decide,if_true];by_cases h:i<0
   ·simp only[h,if_true]<;>omega
   ·simp only[h,if_false]<;>omega
 ·cases hi with
  |none=>simp[sliceBounds,HT.eD]
  |some i=>
   simp only[sliceBounds,HT.eD,getD_none,show(1:Int) > 0 by decide,if_true];by_cases h:i<0
   ·simp only[h,if_true]<;>omega
   ·simp only[h,if_false]<;>omega
def rW (its:LU)(lo hi:OI):slicePick its.toArray lo hi none=((its.drop (HT.eD its.length 0 lo)).take (HT.eD its.length its.length hi - HT.eD its.length 0 lo)).toArray:=by
 obtain⟨h1,h2,h3⟩:=ux lo hi its.toArray.size;unfold slicePick;rw[h1,h2,h3];simp only[sliceRange_one,pick_run,vH]<;>rfl
def Qx (K:Frag):V->OI->OI->Hp->VK->Prop:=λx lo hi H Q=>∃a xs,x=.ref a/\fT K H a xs/\∀p,H p=none->Q (.ref p) (upd H p (.lst (rV xs lo hi)))
def GR:D1 X (Qx X.K):=by
 intro ae s σ H x v vl U lo hi sl Q I O hs pl T h;obtain⟨a,xs,rfl,hx,q⟩:=h;cases O
 obtain⟨its,r,M,hz⟩:=I.list hx;have G:=r.length;refine⟨"list",_,slot_list_getitem.lookup,M.isList.typeIs,?_⟩;refine wpAny_getItem_list_slice M.isList hs pl T .none (by simp) ?_ (by rw[vH]<;>omega)
 rw[rW,←G];refine⟨.ref s.heap.objs.size,_,I.laid (t':=s.toks) (o:=.lst (rV xs lo hi)) (λb ob q=>vZ _ q) (vT _) ?_,rfl,q _ (I.hok.fresh (vT _))⟩;exact⟨vR (nQ xs lo hi) hz,_,0,(r.drop (HT.eD xs.length 0 lo)).take (HT.eD xs.length xs.length hi - HT.eD xs.length 0 lo),vY _ rfl⟩
noncomputable def lg:V->Bool
 |.non=>true
 |.bl _=>true
 |.int _=>true
 |.str _=>true
 |_=>false
def Gy:V->V->Bool
 |.non,.non=>true
 |.bl a,.bl b=>a == b
 |.bl a,.int b=>(if a then 1 else 0) == b
 |.int a,.bl b=>a == (if b then 1 else 0)
 |.int a,.int b=>a == b
 |.str a,.str b=>a == b
 |_,_=>false
def Ld (M:aY y u)(G:aY x v)(T:lg y=true)(O:lg x=true):SeqAt.EqAt A s u v (Gy y x):=by
 cases y with
 |non=>
  cases M
  cases x with
  |non=>cases G;exact SeqAt.EqAt.same _
  |bl b=>cases G;exact SeqAt.EqAt.none_bool b
  |int b=>obtain⟨t,rfl⟩:=G;exact SeqAt.EqAt.none_int b t
  |str b=>obtain⟨t,rfl⟩:=G;exact SeqAt.EqAt.none_str b t
  |_=>exact absurd (show false=true from O) uX
 |bl a=>
  cases M
  cases x with
  |non=>cases G;exact SeqAt.EqAt.bool_none a
  |bl b=>cases G;exact SeqAt.EqAt.bool_bool a b
  |int b=>obtain⟨t,rfl⟩:=G;exact SeqAt.EqAt.bool_int a b t
  |str b=>obtain⟨t,rfl⟩:=G;exact SeqAt.EqAt.bool_str a b t
  |_=>exact absurd (show false=true from O) uX
 |int a=>
  obtain⟨t',rfl⟩:=M;cases x with
  |non=>cases G;exact SeqAt.EqAt.int_none a t'
  |bl b=>cases G;exact SeqAt.EqAt.int_bool a t' b
  |int b=>obtain⟨t,rfl⟩:=G;exact SeqAt.EqAt.int_int a t' b t
  |str b=>obtain⟨t,rfl⟩:=G;exact SeqAt.EqAt.int_str a t' b t
  |_=>exact absurd (show false=true from O) uX
 |str a=>
  obtain⟨t',rfl⟩:=M;cases x with
  |non=>cases G;exact SeqAt.EqAt.str_none a t'
  |bl b=>cases G;exact SeqAt.EqAt.str_bool a t' b
  |int b=>obtain⟨t,rfl⟩:=G;exact SeqAt.EqAt.str_int a t' b t
  |str b=>obtain⟨t,rfl⟩:=G;exact SeqAt.EqAt.str_str a t' b t
  |_=>exact absurd (show false=true from O) uX
 |_=>exact absurd (show false=true from T) uX
def zA (x:V)(u:Value):Bool:=match u with
 |.none=>Gy .non x
 |.bool b=>Gy (.bl b) x
 |.int i _=>Gy (.int i) x
 |.str z _=>Gy (.str z) x
 |_=>false
def DR (r:aY y u)(f:lg y=true):zA x u=Gy y x:=by
 cases y with
 |non=>cases r;rfl
 |bl b=>cases r;rfl
 |int i=>obtain⟨t,rfl⟩:=r;rfl
 |str z=>obtain⟨t,rfl⟩:=r;rfl
 |_=>exact absurd (show false=true from f) uX
theorem lX:∀ {xs:List V}{us:LU},ba xs us->xs.all lg=true->us.any (zA x)=xs.any λy=>Gy y x
 |_,_,.nil,_=>rfl
 |y::xs,u::us,.cons r t,f=>by
  rw[all_cons,vC]at f;rw[any_cons,any_cons,DR r f.1,lX t f.2]
theorem jQ (G:aY x v)(M:lg x=true):∀ {xs:List V}{us:LU},ba xs us->xs.all lg=true->∀u∈us,SeqAt.EqAt A s u v (zA x u)
 |_,_,.nil,_=>λu hu=>by cases hu
 |y::xs,u::us,.cons r t,f=>λO hu=>by
  rw[all_cons,vC]at f;rcases vP hu with rfl|hu
  ·rw[DR r f.1];exact Ld r G f.1 M
  ·exact jQ G M t f.2 O hu
noncomputable def P1 (x:V)(xs:List V):Bool:=xs.any λy=>Gy y x
def S3 (K:Frag)(G:Bool):R2:=λx y H Q=>∃p xs,y=.ref p/\(fT K H p xs∨iY K H p xs)/\lg x=true/\xs.all lg=true/\Q (.bl (if G then !P1 x xs else P1 x xs)) H
def Ct:dw X (compareOp .In) (S3 X.K false):=by
 intro ae s σ H x y v u Q I G O h;obtain⟨p,xs,rfl,hq,M,fs,q⟩:=h;cases O
 rcases hq with hq|hq
 ·obtain⟨its,r,pl,hz⟩:=I.list hq;refine SeqAt.in_listAt (zA x) pl.isList (λw hw=>jQ G M r fs w (by simpa using hw)) ⟨.bl _,H,I,rfl,?_⟩;rw[show its.toArray.any (zA x)=its.any (zA x) by simp,lX r fs];exact q
 ·obtain⟨its,r,pl,hz⟩:=I.tuple hq;refine SeqAt.in_tupleAt (zA x) pl (λw hw=>jQ G M r fs w (by simpa using hw)) ⟨.bl _,H,I,rfl,?_⟩;rw[show its.toArray.any (zA x)=its.any (zA x) by simp,lX r fs];exact q
def uy:dw X (compareOp .NotIn) (S3 X.K true):=by
 intro ae s σ H x y v u Q I G O h;obtain⟨p,xs,rfl,hq,M,fs,q⟩:=h;cases O
 rcases hq with hq|hq
 ·obtain⟨its,r,pl,hz⟩:=I.list hq;refine SeqAt.notIn_listAt (zA x) pl.isList (λw hw=>jQ G M r fs w (by simpa using hw)) ⟨.bl _,H,I,rfl,?_⟩;rw[show its.toArray.any (zA x)=its.any (zA x) by simp,lX r fs];exact q
 ·obtain⟨its,r,pl,hz⟩:=I.tuple hq;refine SeqAt.notIn_tupleAt (zA x) pl (λw hw=>jQ G M r fs w (by simpa using hw)) ⟨.bl _,H,I,rfl,?_⟩;rw[show its.toArray.any (zA x)=its.any (zA x) by simp,lX r fs];exact q
def uz:bW X (.builtin "len") (λxs H Q=>∃p ys,xs=[.ref p]/\(fT X.K H p ys∨iY X.K H p ys)/\Q (.int ys.length) H):=by
 intro ae s σ H xs us Q I r h;obtain⟨p,ys,rfl,hq,q⟩:=h;obtain⟨u,rfl,O⟩:=gI r;cases O
 have hn:=mW;rcases hq with hq|hq
 ·obtain⟨its,M,pl,hz⟩:=I.list hq;have G:=M.length;exact Calls.call_len_list pl.isList (by simp only[vH]<;>omega) ⟨.int ys.length,H,I.tok _,⟨s.toks+1,by rw[vH,G]⟩,q⟩
 ·obtain⟨its,M,pl,hz⟩:=I.tuple hq;have G:=M.length;exact len_tuple pl (by simp only[vH]<;>omega) ⟨.int ys.length,H,I.tok _,⟨s.toks+1,by rw[vH,G]⟩,q⟩
def u0:bW X (.builtin "len") (λxs H Q=>∃z,xs=[.str z]/\z.length<=sizeLine/\Q (.int z.length) H):=by
 intro ae s σ H xs us Q I r h;obtain⟨z,rfl,hz,q⟩:=h;obtain⟨u,rfl,t,rfl⟩:=gI r;have hn:=mW;exact len_str (by omega) ⟨.int z.length,H,I.tok _,⟨_,rfl⟩,q⟩
def bW.or (h:bW X f r)(h':bW X f r'):bW X f (λxs H Q=>r xs H Q∨r' xs H Q):=by
 intro ae s σ H xs us Q I rs q;rcases q with q|q
 ·exact h ae s σ H xs us Q I rs q
 ·exact h' ae s σ H xs us Q I rs q
def u5:bW X (.type "list") (λxs H Q=>∃p ys,xs=[.ref p]/\(fT X.K H p ys∨iY X.K H p ys)/\∀l,H l=none->Q (.ref l) (upd H l (.lst ys))):=by
 intro ae s σ H xs us Q I r h;obtain⟨p,ys,rfl,hq,q⟩:=h;obtain⟨u,rfl,T⟩:=gI r;cases T
 have iB:∀(its:LU),ba ys its->ys.length<=sizeLine->∀(h':Heap)(G:Nat),(∀b o',s.heap.get? b=some o'->h'.get? b=some o') ->
   h'.get? s.heap.objs.size=some { cls:=.type "list",dict:=none,data:=.seq its.toArray G,slots:=#[] }->EP X ae σ Q (.ref s.heap.objs.size) { s with heap:=h' }:=λits M hz h' G kp e=>
  ⟨.ref s.heap.objs.size,_,I.laid (t':=s.toks) kp (vT _) (show bT X.prog X.w _ h' _ (.lst ys)from ⟨hz,its,G,M,e⟩),rfl,q _ (I.hok.fresh (vT _))⟩
 rcases hq with hq|hq
 ·obtain⟨its,M,pl,hz⟩:=I.list hq;have O:=M.length;obtain⟨o,ho,hc,n,hd⟩:=pl.isList;exact call_list_seq p (.inl rfl) ho hc hd (λh' G kp e=>iB its M hz h' G kp e) (by simp only[vH]<;>omega)
 ·obtain⟨its,M,pl,hz⟩:=I.tuple hq;have O:=M.length;obtain⟨o,ho,hc,n,hd⟩:=pl;exact call_list_seq p (.inr rfl) ho hc hd (λh' G kp e=>iB its M hz h' G kp e) (by simp only[vH]<;>omega)
def rX:bW X (.type "tuple") (λxs H Q=>∃p ys,xs=[.ref p]/\((fT X.K H p ys/\∀l,H l=none->Q (.ref l) (upd H l (.tup ys)))∨(iY X.K H p ys/\Q (.ref p) H))):=by
 intro ae s σ H xs us Q I r h;obtain⟨p,ys,rfl,h⟩:=h;obtain⟨u,rfl,O⟩:=gI r;cases O
 rcases h with⟨hq,q⟩|⟨hq,q⟩
 ·obtain⟨its,G,pl,hz⟩:=I.list hq;have M:=G.length;refine call_tuple_list pl.isList (λh' kp=>?_) (by simp only[vH]<;>omega)
  have I1:Inv X ae σ H { s with heap:=h' }:=I.kept (t':=s.toks) kp;have I2:Inv X ae σ (upd H h'.objs.size (.tup ys)) { s with heap:=h'.push { cls:=.type "tuple",data:=.seq its.toArray } } :=
   I1.laid (t':=s.toks) (λb o e=>vZ _ e) (vT _) (show bT X.prog X.w _ _ _ (.tup ys)from ⟨hz,its,G,IsTup.new _ _⟩)
  exact⟨.ref h'.objs.size,_,I2,rfl,q _ (I1.hok.fresh (vT _))⟩
 ·obtain⟨its,G,pl,hz⟩:=I.tuple hq;exact call_tuple_same pl ⟨.ref p,H,I,rfl,q⟩
def S4 (K:Frag)(T:String)(x:V)(H:Hp):Prop:=match x with
 |.str _=>T = "str"
 |.int _=>T = "int"
 |.ref p=>(T = "list"/\∃xs,fT K H p xs)∨(T = "tuple"/\∃o,K.lookup p=some o/\o.cls=.type "tuple"/\o.dict=none) ∨
   (T = "dict"/\((∃aN ob,H p=some (.dK aN ob))∨∃aN,H p=some (.dT aN)))∨(T = "set"/\∃S n,H p=some (.set S n))
 |_=>False
def zB (I:Inv X ae σ H s)(r:aY x v)(ty:S4 X.K T x H):
  s.TypeIs v T/\∀a,v=.ref a->∃ob,s.heap.get? a=some ob/\ob.dict=none:=by
 cases x with
 |str z=>
  obtain⟨t,rfl⟩:=r;cases (show T = "str" from ty)
  exact⟨typeIs_str s z t,λ_ e=>nomatch e⟩
 |int i=>
  obtain⟨t,rfl⟩:=r;cases (show T = "int" from ty)
  exact⟨typeIs_int s i t,λ_ e=>nomatch e⟩
 |ref p=>
  cases r
  rcases ty with⟨rfl,xs,hq⟩|⟨rfl,o,hk,hc,hd⟩|⟨rfl,hk⟩|⟨rfl,S,n,hk⟩
  ·obtain⟨its,_,pl,_⟩:=I.list hq;refine⟨pl.isList.typeIs,λa e=>?_⟩;cases e
   obtain⟨o,n,e,c,hd,_⟩:=pl;exact⟨o,e,hd⟩
  ·refine⟨⟨o,I.kIn p o hk,hc⟩,λa e=>?_⟩;cases e
   exact⟨o,I.kIn _ o hk,hd⟩
  ·have z:∃o,s.heap.get? p=some o/\o.ExactDict:=by
    rcases hk with⟨aN,G,hk⟩|⟨aN,hk⟩
    ·obtain⟨_,_,_,_,_,o,_,_,e,ex,_⟩:=I.hok p _ hk;exact⟨o,e,ex⟩
    ·obtain⟨_,_,_,_,o,_,_,e,ex,_⟩:=I.hok p _ hk;exact⟨o,e,ex⟩
   obtain⟨o,e,ex⟩:=z;refine⟨⟨o,e,ex.1⟩,λa e2=>?_⟩;cases e2
   exact⟨o,e,ex.2.1⟩
  ·obtain⟨o,_,_,_,e,ex,_⟩:=I.hok p _ hk;refine⟨⟨o,e,ex.1⟩,λa e2=>?_⟩;cases e2
   exact⟨o,e,ex.2.1⟩
 |_=>exact False.elim ty
def U5 (K:Frag)(T:String)(r:V->List V->Hp->VK->Prop)(to:TE)(t:TA):TE:=λσ H Q=>to σ H λx G=>S4 K T x G/\t σ G λxs H2=>r x xs H2 Q
variable {o e:Expr}{es:QD}{to:TE}{t:TA}{name:Str}{di cx:Pos}{T id:String}{r:V->List V->Hp->VK->Prop}
def A9 (pa:PlainAttrs T)(slot:Slot T name id)(Rj:typeOf (.builtin id)=pure (.type "method_descriptor"))(hm:GP X id r)(ho:PE X o to)(ha:PA X (e::es) t)
  (M:attributeBase o name X.env (eval o X.env)=eval o X.env:=by rfl)
  (U:((backTo cx (starEach (e::es) X.env)).all (λx=>!x.1) && (backToKw cx (keywordEach [] X.env)).all (λx=>x.1.isSome)
   && decide ((e::es).length+([]:List Keyword).length+(if([]:List Keyword).isEmpty then 0 else 1)<30))=true:=by rfl)
  (O:(di.endLine == cx.line)=true:=by rfl) (hs:starEach (e::es) X.env=(false,eval e X.env)::starEach es X.env:=by rfl) (G:(backTo cx (starEach es X.env)).any (·.1)=false:=by rfl):
  PE X (.Call (.Attribute o name di) (e::es) [] cx) (U5 X.K T r to t):=by
 intro ae s σ H Q I h;refine wpAny_Call_method_late M U O rfl (cn (ho ae s σ H _ I h) λv s1 ⟨x,H1,I1,r1,ty,q1⟩=>?_);obtain⟨h1,h2⟩:=zB I1 r1 ty;refine⟨T,id,pa,slot,Rj,h1,h2,?_⟩;have hA:=ha cx ae s1 σ H1 _ I1 q1;rw[hs]at hA ⊢;refine Calls.callWith_builtin (by show(false || (backTo cx (starEach es X.env)).any (·.1))=false;rw[G]<;>rfl) (Calls.evalArgs_plain ?_)
 exact cn hA λus s2 ⟨vs,H2,I2,r2,q2⟩=>hm ae s2 σ H2 x vs v us Q I2 r1 r2 q2
/- xs.append(e),list.index on a module's tuple .. are GP facts of 06m -/
end
def U6 (X:Cx)(id:String)(r:V->List V->Hp->VK->Prop):Prop :=
 ∀(ae:AO)(s:Shared)(σ:St)(H:Hp)(x:V)(xs:List V)(v:Value)(us:LU)(Q:VK),Inv X ae σ H s->aY x v->ba xs us->r x xs H Q ->
  wq X (call (.builtin id) (v::us)) (EP X ae σ Q) X.xe s
theorem ba.one:∀ {x:V}{us:LU},ba [x] us->∃u,us=[u]/\aY x u
 |_,_,.cons r .nil=>⟨_,rfl,r⟩
theorem ba.two:∀ {x y:V}{us:LU},ba [x,y] us->∃u v,us=[u,v]/\aY x u/\aY y v
 |_,_,_,.cons r (.cons q .nil)=>⟨_,_,rfl,r,q⟩
def ba.reverse (h:ba xs us):ba xs.reverse us.reverse:=by
 induction h with
 |nil=>exact .nil
 |cons r t G=>rw[reverse_cons,reverse_cons];exact ba.append G (.cons r .nil)
theorem ba.rep (h:ba xs us):∀k:Nat,ba (List.replicate k xs).flatten (List.replicate k us).flatten
 |0=>.nil
 |k+1=>by
  rw[replicate_succ,replicate_succ,flatten_cons,flatten_cons];exact ba.append h (ba.rep h k)
theorem sM (its:LU):∀(k:Nat)(G:LU),
  List.foldl (λM O=>M++O) G.toArray (List.replicate k its.toArray)=(G++(List.replicate k its).flatten).toArray
 |0,G=>by simp
 |k+1,G=>by
  have e:G.toArray++its.toArray=(G++its).toArray:=by simp
  have e2:(G++its)++(List.replicate k its).flatten=G++(List.replicate (k+1) its).flatten:=by
   rw[replicate_succ,flatten_cons,append_assoc]
  rw[←e2,←sM its k (G++its),←e,replicate_succ,foldl_cons]
section
variable {X:Cx}{ae:AO}{σ:St}{H:Hp}{s:Shared}{l b:Addr}{xs ys zs:List V}
def Inv.lset {its its':LU}{n:Nat}{f:AV->AV}{t':Nat}(I:Inv X ae σ H s)(G:H l=some (.lst xs))
  (e:s.heap.get? l=some { cls:=.type "list",data:=.seq its.toArray n }) (hf:f its.toArray=its'.toArray) (hv:ba ys its') (hz:ys.length<=sizeLine):
  Inv X ae σ (upd H l (.lst ys)) { s with heap:=s.heap.update l (Obj.mapSeq f),toks:=t' }:=by
 have q:=PySem.IsL.update e f;rw[hf]at q;refine I.write (x:=l) (e:=l) (by rw[G];exact trivial) (.inl rfl) (λb' u hb hu=>(Heap.get?_update_other s.heap (Obj.mapSeq f) (Ne.symm hb)).trans hu) ⟨_,q⟩ ?_;exact⟨hz,its',_,hv,q⟩
def Inv.lnew (I:Inv X ae σ H s)(hv:ba ys its)(hz:ys.length<=sizeLine):
  Inv X ae σ (upd H s.heap.objs.size (.lst ys)) { s with heap:=s.heap.push { cls:=.type "list",data:=.seq its.toArray },toks:=t' } :=
 I.laid (λ_ _ q=>vZ _ q) (vT _) ⟨hz,its,0,hv,vY _ rfl⟩
def Inv.fresh (I:Inv X ae σ H s):H s.heap.objs.size=none:=I.hok.fresh (vT _)
def Inv.lstM (I:Inv X ae σ H s)(G:H l=some (.lst xs)):xs.length<=sizeLine/\∃(its:LU)(n:Nat),ba xs its/\xs.length=its.length/\s.heap.get? l=some { cls:=.type "list",data:=.seq its.toArray n }:=by
 obtain⟨z,its,n,r,e⟩:=I.hok l _ G;exact⟨z,its,n,r,r.length,e⟩
def DS (h:n<=sizeLine):Builtin.List.listTooLong n=false:=by
 unfold Builtin.List.listTooLong;exact MO (by omega)
end
section
variable {X:Cx}
def u6:V->List V->Hp->VK->Prop:=λx vs H Q=>∃l xs y,x=.ref l/\vs=[y]/\H l=some (.lst xs)/\xs.length<sizeLine/\Q .non (upd H l (.lst (xs++[y])))
def nc:U6 X "list.append" u6:=by
 intro ae s σ H x vs v us Q I M O h;obtain⟨l,xs,y,rfl,rfl,G,hz,q⟩:=h;cases M
 obtain⟨u,rfl,ru⟩:=O.one;obtain⟨z,its,n,r,hl,e⟩:=I.lstM G;refine call_meets F.slot_list_append ⟨_,e,rfl⟩ F.entry_list_append (F.args_list_append_2 _ _) (PySem.list_append l its.toArray n u (by rw[vH];omega)) ⟨e,?_⟩;refine⟨.non,_,I.lset (its':=its++[u]) G e (by simp) (r.append (.cons ru .nil)) ?_,rfl,q⟩;rw[uZ,length_singleton];omega
def Qy:R2:=λx y H Q=>∃l k xs,x=.ref l/\y=.int k/\H l=some (.lst xs)/\-(2 ^ 63)<=k/\k<2 ^ 63/\xs.length*k.toNat<=sizeLine /\
 ∀p,H p=none->Q (.ref p) (upd H p (.lst (List.replicate k.toNat xs).flatten))
def GS {α:Type}(xs:List α)(k:Nat):(List.replicate k xs).flatten.length=k*xs.length:=by
 induction k with
 |zero=>simp
 |succ k G=>rw[replicate_succ,flatten_cons,uZ,G,Nat.succ_mul,Nat.add_comm]
def Le:dw X (binaryOp .Mult) Qy:=by
 intro ae s σ H x y v u Q I rx ry h;obtain⟨l,k,xs,rfl,rfl,hH,h1,h2,hz,q⟩:=h;cases rx
 obtain⟨t,rfl⟩:=ry;obtain⟨z,its,n,r,hl,e⟩:=I.lstM hH;have M:its.toArray.size*k.toNat<=sizeLine:=by rw[vH,←hl];exact hz
 have O:¬its.toArray.size*k.toNat > (2 ^ 63 - 1) / 8:=by
  have:(sizeLine:Nat)<=(2 ^ 63 - 1) / 8:=by decide
  omega
 have Rk:¬(!Builtin.List.listFitsIndex k)=true:=by
  rw[fitsIndex_both h1 h2];exact uX
 have G:¬Builtin.List.listTooLong (its.toArray.size*k.toNat)=true:=by
  rw[DS M];exact uX
 have Rm:List.foldl (λx1 x2=>x1++x2) #[] (List.replicate (if its.toArray.isEmpty=true then 0 else k.toNat) its.toArray)=(List.replicate k.toNat its).flatten.toArray:=by
  have f0:∀m:Nat,List.foldl (λx1 x2=>x1++x2) #[] (List.replicate m its.toArray)=(List.replicate m its).flatten.toArray:=λm=>by
   have:=sM its m [];rw[nil_append]at this;exact this
  rw[f0];cases its with
  |nil=>simp
  |cons a r'=>rw[if_neg (by simp)]
 refine wpAny_binaryOp_repeat_ref (T:="list") (U:="int") (by decide) ⟨_,e,rfl⟩ (λs'=>typeIs_int s' k t) noFill_list_mul F.fills_int_mul F.slot_int_rmul repeat_list F.slot_int_index.lookup
  (call_meets F.slot_int_rmul (typeIs_int s k t) F.entry_int_rmul (F.args_int_rmul_2 _ _) (int___rmul___int_list k t l its.toArray n)
   ⟨e,rfl,⟨_,e,rfl⟩,call_meets F.slot_list_mul ⟨_,e,rfl⟩ F.entry_list_mul (F.args_list_mul_2 _ _) (AutoListH.list___mul___list_int_3 l its.toArray n k t Rk O G) ⟨e,?_⟩⟩)
 rw[Rm];exact⟨.ref _,_,I.lnew (t':=s.toks) (r.rep k.toNat) (by rw[GS,Nat.mul_comm];exact hz),rfl,q _ I.fresh⟩
end
end L2
namespace Att
open PySem PySem.W PySem.Calls PyProof.Rows
def oD:∀(ns:LI)(vs:LU),WellAll P h vs (ns.map WData.int)->IntsAre vs ns:=by
 intro ns;induction ns with
 |nil=>
  intro vs w;rw[map_nil]at w;cases w
  exact .nil
 |cons n ns G=>
  intro vs w;rw[uY]at w;cases w with
  |cons a b=>
   cases a
   exact .cons _ _ (G _ b)
def Cu {l:OpenLaw}{n:Nat}(hn:l.most=some n){P:Params}{h:Heap}{args:List WData}{vals:LU}
  (G:l.row.toRowW.claim.pre args=true) (T:WellAll P h vals args):
  ∃a vs ns,vals=[Value.ref a]/\args=[WData.list (ns.map WData.int)]/\h.get? a=some { cls:=.type "list",data:=.seq vs.toArray }/\IntsAre vs ns/\ns.length<=n:=by
 have U:WShape.hasAll [] args [.list .int]=true:=(pre_splitW G).1;have hc:l.pre.holds [] { args:=args }=true:=(pre_splitW G).2;obtain⟨d,r,rfl,h1,h2⟩:=hasAllW_cons U;obtain rfl:=hasAllW_nil h2;obtain⟨xs,rfl,h3⟩:=hasW_list h1;obtain⟨ns,rfl⟩:=items_int h3;have M:ns.length<=n:=by
  unfold OpenLaw.pre at hc;have h4:(WTm.not (.lt (.lit (.int (n:Int))) (.len (.arg 0)))).holds [] { args:=[.list (ns.map .int)] }=true:=by
   have h4:=(holds_andW hc).1;rw[hn]at h4;exact h4
  have h5:=condW_of h4 (w_not (w_lt w_lit (w_len_list (w_arg rfl))));rw[vI]at h5;refine Nat.le_of_not_lt λq=>?_;have q':(n:Int)<((ns.length:Nat):Int):=by omega
  first
   | (rw[sv q']at h5;exact absurd h5 (by decide))
   | (simp at h5;omega)
 cases T with
 |cons w1 w2=>
  cases w2
  cases w1 with
  |list ho O=>exact⟨_,_,ns,rfl,rfl,ho,oD ns _ O,M⟩
def Cv (l:OpenLaw)(args:List WData):l.row.toRowW.claim.post args (.bool true) args=true :=
 postW_of (r:=l.row.toRowW) (X:=(true == true))
  (show WShape.has [] (.bool true) .bool=true by first|rfl|decide|simp[WShape.has,WShape.arms,WShape.armsAll])
  (show(WTm.eq .res (.lit (.bool true))).value [] { args:=args,res:=some (.bool true),after:=args }=some (.bool (true == true))from w_eq_bool (w_res rfl) w_lit) rfl
def wW {l:OpenLaw}{n:Nat}{q:Program}{O:LS}{XP:SV->Heap->Prop}{YP:World->Heap->Prop}{d:DefRec}
  (hn:l.most=some n) (OJ:d.params.defaults=[])
  (call:∀(w:World)(s₀ M:Shared)(mg mb:SV)(fa:Addr)(o:Obj)(pm cd doc:Value)(a:Addr)(vs:LU)(ns:LI),
   Ground q O [] XP w s₀ mg mb M.heap->YP w M.heap ->
   M.heap.get? fa=some o->o.data=.func (docDef d.name d.params d.body d.scope pm cd doc)->M.heap.CodeRec cd d.name->mg d.name=some (.ref fa) ->
   M.heap.get? a=some { cls:=.type "list",data:=.seq vs.toArray }->IntsAre vs ns->ns.length<=n->M.gens=#[] ->
   codeAny (model l.prog w) callerA (.call (.ref fa) ⟨[.ref a],[]⟩) (λr s'=>r=.ok (.ret (.bool true))/\OldK M.heap s'.heap/\s'.os=M.os/\AllBare s'.gens) M):
  WalkO q O XP YP l.row.toRowW d [] (λf vs=>PySem.call f vs):=by
 intro w s₀ M mg mb G Y fa o pm cd doc dV kV ho hd Mt hD hmg hg args vals as U hlay hrd hwl Vu;obtain rfl:dV=.none:=Dflts.none hD OJ;obtain rfl:kV=.none:=Dflts.noKw hD;obtain⟨a,vs,ns,rfl,rfl,Mu,T,kJ⟩:=Cu hn U hwl;refine enter_call (codeAny_mono (call w s₀ M mg mb fa o pm cd doc a vs ns G Y ho (fd_plain hd) Mt hmg Mu T kJ hg) λr s' hq=>?_);obtain⟨rfl,h2,h3,h4⟩:=hq;exact⟨.inl ⟨.bool true,.bool true,[],rfl,λ_=>rfl,.bool true,Cv l _,λ_=>⟨List.Pairwise.nil,λ_ hm=>(nomatch hm)⟩⟩,h2,h3,h4⟩
section
variable {prog:Program}{w:World}{A:Around}{E:QV}{s:Shared}{K:Frag}
end
end Att
namespace L2
open PySem PySem.Spec PyProof.Rows
theorem jd:∀ {vs:LU}{ns:LI},IntsAre vs ns->ba (ns.map V.int) vs
 |_,_,.nil=>.nil
 |_,_,.cons n t h=>.cons ⟨t,rfl⟩ (jd h)
noncomputable def gq (s:Stmt):Arguments:=match s with
 |.FunctionDef _ a _ _ _ _ _ _ _ _=>a
 |_=>{ posonlyargs:=[],args:=[],vararg:=none,kwonlyargs:=[],kw_defaults:=[],kwarg:=none,defaults:=[] }
noncomputable def cK (s:Stmt):List Stmt:=match s with
 |.FunctionDef _ _ b _ _ _ _ _ _ _=>b
 |_=>[]
noncomputable def aT (s:Stmt):Scope:=match s with
 |.FunctionDef _ _ _ _ _ _ sc _ _ _=>sc
 |_=>{ kind:=.function,names:=[],isGenerator:=false,isCoroutine:=false }
abbrev zi:J6:=λ_ _ _ _ _ _=>False
abbrev E0:XK:=λ_ _ _=>False
def NI:z5 zi X E0:=λ_ _ _ _ _ _ _ h=>h.elim
structure Mv (K:Frag)(x qual:Str)(st:Stmt)(f:Addr)(fd:FuncData):Prop where
 ex:∃(oc:Value)(od:Option Addr)(kV doc pm:Value)(an:Option Addr)(eP ct:Value)(oA:Array (Option Value)),
  fd=fnOf x qual (gq st) (cK st) (aT st) .none kV doc pm an eP ct/\K.lookup f=some ⟨oc,od,.func fd,oA⟩/\PySem.W.codeIn K eP qual=true
 kp:PySem.W.keepIn K (.ref f)=true
section
variable {P:Program}{w:World}{K:Frag}{mg:SV}{base:Heap}
def Mv.ok {x qual:Str}{st:Stmt}{f:Addr}{fd:FuncData}{N ps:LS}{k:Nat}{sp:Sp}(F:Mv K x qual st f fd)(S:FnScope N ps (aT st))(len:∀vs H Q E,sp vs H Q E->vs.length=ps.length)
  (G:∀(eP:Value)(A:Around)(outer:List Env)(s:Shared)(H:Hp)(vs:List V)(Q:VK)(E:XK),fg k (A.deeper (envOfC qual (aT st) s.heap.objs.size f eP))->sp vs H Q E ->
   ∃t,sy (oC zi P w K mg base N qual (aT st) f eP A outer s H E).nox (cK st) t/\t { nx:=λ_ H'=>Q .non H',rt:=Q } (jJ N vs) H):su P w K mg base zi (k+1) f fd ps sp:=by
 obtain⟨oc,od,kV,doc,pm,an,eP,ct,oA,rfl,T,M⟩:=F.ex;refine J7 T M S len λA outer s H vs Q E hr O=>?_;obtain⟨t,h,q⟩:=G eP A outer s H vs Q E hr O;exact⟨t,h.nox,q⟩
def Mv.binds {x qual:Str}{st:Stmt}{f:Addr}{fd:FuncData}{ps:LS}(F:Mv K x qual st f fd)
  (h:∀(kV doc pm:Value)(an:Option Addr)(eP ct:Value)(us:LU),us.length=ps.length->bindArgs (fnOf x qual (gq st) (cK st) (aT st) .none kV doc pm an eP ct) ⟨us,[]⟩=pure (ps.zip us)):sC K fd ps []:=by
 obtain⟨oc,od,kV,doc,pm,an,eP,ct,oA,rfl,M,G⟩:=F.ex;exact .all (h kV doc pm an eP ct)
def Lf {x qual:Str}{st:Stmt}{f:Addr}{oc:Value}{od an:Option Addr}{oA:Array (Option Value)}{kV doc pm eP ct:Value}(l:K.lookup f=some ⟨oc,od,.func (fnOf x qual (gq st) (cK st) (aT st) .none kV doc pm an eP ct),oA⟩)
  (c:PySem.W.codeIn K eP qual=true) (k:PySem.W.keepIn K (.ref f)=true):Mv K x qual st f (fnOf x qual (gq st) (cK st) (aT st) .none kV doc pm an eP ct):=⟨⟨oc,od,kV,doc,pm,an,eP,ct,oA,rfl,l,c⟩,k⟩
end
def bc (H H':Hp):Prop:=∀b o,H b=some o->H' b=some o
def bc.refl (H:Hp):bc H H:=λ_ _ h=>h
def bc.trans (a:bc H H1)(b:bc H1 H2):bc H H2:=λc o h=>b c o (a c o h)
def bc.free (e:bc H H')(h:H' l=Option.none):H l=Option.none:=by
 cases q:H l with
 |none=>rfl
 |some o=>
  rw[e l o q]at h;cases h
def bc.seq {K:Frag}{H H':Hp}{a:Addr}{xs:List V}(e:bc H H')(h:fT K H a xs):fT K H' a xs:=by
 rcases h with (h|⟨o,h⟩)|h
 ·exact .inl (.inl (e _ _ h))
 ·exact .inl (.inr ⟨o,e _ _ h⟩)
 ·exact .inr h
section
variable {κ:Type}[DecidableEq κ]
noncomputable def jM (aN:List (κ×V))(k:κ):Option V:=(aN.find? λkv=>decide (kv.1=k)).map (·.2)
def lY (aN:List (κ×V))(k:κ)(v:V):List (κ×V) :=
 if(aN.any λkv=>decide (kv.1=k))=true then aN.map (λkv=>if kv.1=k then (kv.1,v)else kv)else aN++[(k,v)]
def lZ {p:κ×V}{r:List (κ×V)}{k:κ}(e:p.1=k):jM (p::r) k=some p.2:=by simp[jM,find?_cons,e]
def ma {p:κ×V}{r:List (κ×V)}{k:κ}(e:¬p.1=k):jM (p::r) k=jM r k:=by simp[jM,find?_cons,e]
theorem wZ (k:κ):∀aN:List (κ×V),(aN.any λkv=>decide (kv.1=k))=(jM aN k).isSome
 |[]=>rfl
 |p::r=>by
  rw[any_cons];by_cases e:p.1=k
  ·simp only[lZ e,sv e,Bool.true_or,Option.isSome_some]
  ·rw[ma e,MO e,Bool.false_or];exact wZ k r
def jR (aN:List (κ×V))(k:κ)(v:V):(lY aN k v).length<=aN.length+1:=by
 unfold lY;split
 ·rw[vI];omega
 ·rw[uZ,vE,length_nil];omega
def lb.isSome_eq (r:lb o u):o.isSome=u.isSome:=by
 cases o with
 |none=>cases u with
  |none=>rfl
  |some _=>exact(show False from r).elim
 |some _=>cases u with
  |none=>exact(show False from r).elim
  |some _=>rfl
def lb.getD (r:lb o u)(G:aY d d'):aY (o.getD d) (u.getD d'):=by
 cases o with
 |none=>cases u with
  |none=>exact G
  |some _=>exact(show False from r).elim
 |some _=>cases u with
  |none=>exact(show False from r).elim
  |some _=>exact r
def KV.val {aN:List (κ×V)}{vs:List (κ×Value)}(r:KV aN vs)(k:κ):lb (jM aN k) (valueAt vs k):=by
 unfold KV at r;induction r with
 |nil=>exact True.intro
 |@cons p q ps G h t O=>
  obtain⟨h1,h2⟩:=h;by_cases e:p.1=k
  ·have M:q.1=k:=h1.symm.trans e;have b:valueAt (q::G) k=some q.2:=by simp[valueAt,find?_cons,M]
   rw[lZ e,b];exact h2
  ·have M:¬q.1=k:=λz=>e (h1.trans z);have b:valueAt (q::G) k=valueAt G k:=by simp[valueAt,find?_cons,M]
   rw[ma e,b];exact O
def KV.any (r:KV aN vs)(k:κ):(aN.any λkv=>decide (kv.1=k))=vs.any λkv=>decide (kv.1=k):=by
 unfold KV at r;induction r with
 |nil=>rfl
 |cons h t G=>rw[any_cons,any_cons,G,h.1]
def KV.repl (r:KV aN vs)(k:κ)(G:aY y u):
  KV (aN.map λkv=>if kv.1=k then (kv.1,y)else kv) (vs.map λkv=>if kv.1=k then (kv.1,u)else kv):=by
 unfold KV at r ⊢;induction r with
 |nil=>exact .nil
 |@cons p q ps O h t M=>
  rw[uY,uY];refine .cons ?_ M;obtain⟨h1,h2⟩:=h;by_cases e:p.1=k
  ·rw[if_pos e,if_pos (h1.symm.trans e)];exact⟨h1,G⟩
  ·rw[if_neg e,if_neg (λz=>e (h1.trans z))];exact⟨h1,h2⟩
def KV.put (r:KV aN vs)(k:κ)(G:aY y u):KV (lY aN k y) (stored vs k u):=by
 unfold lY stored;rw[r.any k];by_cases e:(vs.any λkv=>decide (kv.1=k))=true
 ·rw[if_pos e,if_pos e];exact r.repl k G
 ·rw[if_neg e,if_neg e];exact Paired.snoc r ⟨rfl,G⟩
def KV.length (r:KV aN vs):aN.length=vs.length:=Paired.length r
end
def p6 (r:aY (kV k) u):(cu P w).is k u=true:=by
 cases k with
 |inl i=>obtain⟨t,e⟩:=(show ∃t,u=Value.int i t from r);subst e;exact wM P w i t
 |inr x=>obtain⟨t,e⟩:=(show ∃t,u=Value.str x t from r);subst e;exact wN P w x t
theorem sP:∀ {ks:List eC}{us:LU},ba (ks.map kV) us->ItemsAre (cu P w) ks us
 |[],_,r=>by rw[map_nil]at r;cases r;exact .nil
 |k::ks,_,r=>by
  rw[uY]at r;cases r with
  |cons h t=>exact .cons (p6 h) (sP t)
abbrev KT (H:Hp):List (List eC×V)->List (List eC×Addr×Value)->Prop:=Paired λp q=>p.1=q.1/\H q.2.1=some (.tup (p.1.map kV))/\aY p.2 q.2.2
def KT.val {H:Hp}{aN:List (List eC×V)}{xs:List (List eC×Addr×Value)}(r:KT H aN xs)(k:List eC):lb (jM aN k) ((atKey xs k).map (·.2)):=by
 induction r with
 |nil=>exact True.intro
 |@cons p q ps G h t O=>
  obtain⟨h1,_,h2⟩:=h;by_cases e:p.1=k
  ·have M:q.1=k:=h1.symm.trans e;have b:atKey (q::G) k=some q.2:=by simp[atKey,find?_cons,M]
   rw[lZ e,b];exact h2
  ·have M:¬q.1=k:=λz=>e (h1.trans z);have b:atKey (q::G) k=atKey G k:=by simp[atKey,find?_cons,M]
   rw[ma e,b];exact O
def KT.repl (r:KT H aN xs)(k:List eC)(G:aY y u):
  KT H (aN.map λkv=>if kv.1=k then (kv.1,y)else kv) (xs.map (putAt k u)):=by
 induction r with
 |nil=>exact .nil
 |@cons p q ps O h t M=>
  rw[uY,uY];refine .cons ?_ M;obtain⟨h1,h2,h3⟩:=h;unfold putAt;by_cases e:p.1=k
  ·rw[if_pos e,if_pos (h1.symm.trans e)];exact⟨h1,h2,G⟩
  ·rw[if_neg e,if_neg (λz=>e (h1.trans z))];exact⟨h1,h2,h3⟩
def KT.put (r:KT H aN xs)(k:List eC)(hb:H b=some (.tup (k.map kV)))(G:aY y u):
  KT H (lY aN k y) (storedH xs k b u):=by
 have e:(aN.any λkv=>decide (kv.1=k))=(atKey xs k).isSome:=by
  rw[wZ,(r.val k).isSome_eq,isSome_map]
 unfold lY storedH;rw[e];by_cases q:(atKey xs k).isSome=true
 ·rw[if_pos q,if_pos q];exact r.repl k G
 ·rw[if_neg q,if_neg q];exact Paired.snoc r ⟨rfl,hb,G⟩
def KT.keeps (r:KT H aN xs)(G:∀b ys,H b=some (.tup ys)->H' b=some (.tup ys)):KT H' aN xs :=
 Paired.mapP r λ_ _ z=>⟨z.1,G _ _ z.2.1,z.2.2⟩
section
variable {P:Program}{w:World}{H:Hp}{h:Heap}{a:Addr}
def J9 (ok:lf P w H h)(e:Rd H a u):bT P w H h a u:=e.ok ok
def zC (ok:lf P w H h)(e:H a=some (.dK aN ob)):h.get? a=some ob:=And.left (show bT P w H h a (.dK aN ob)from ok a _ e)
def p7 (ok:lf P w H h)(e:Rd H a (.dK aN ob)):aN.length<=sizeLine/\(a == sysModules)=false/\∃vs,KV aN vs/\h.DictOf (cu P w) a vs :=
 And.right (show bT P w H h a (.dK aN ob)from J9 ok e)
def p8 (ok:lf P w H h)(e:H a=some (.dK aN ob)):aN.length<=sizeLine/\(a == sysModules)=false/\∃vs,KV aN vs/\h.DictOf (cu P w) a vs:=p7 ok (.inl e)
def ng (ok:lf P w H h)(e:H a=some (.tup (ks.map kV))):(tupleKind (cu P w)).is h ks a:=by
 obtain⟨_,its,r,o,h1,h2,n,h3⟩:=(show bT P w H h a (.tup (ks.map kV))from ok a _ e);exact⟨o,its.toArray,n,h1,h2,h3,by simpa using sP r⟩
def p9 (ok:lf P w H h)(e:Rd H a (.dT aN)):aN.length<=sizeLine/\(a == sysModules)=false /\
  ∃xs,KT H aN xs/\h.DictOfH (tupleKind (cu P w)) a xs:=by
 obtain⟨z,y,xs,r,o,es,G,h1,h2,h3,h4,h5⟩:=(show bT P w H h a (.dT aN)from J9 ok e);refine⟨z,y,xs,r,o,es,G,h1,h2,h3,h4,λx hx=>?_,h5⟩;have all:∀ {l:List (List eC×V)}{m:List (List eC×Addr×Value)},KT H l m->∀x∈m,(tupleKind (cu P w)).is h x.1 x.2.1:=by
  intro l m q;induction q with
  |nil=>intro x hx;exact nomatch hx
  |@cons p q ps O hq t M=>
   intro x hx;rcases vP hx with e|hx
   ·subst e;exact ng ok (by rw[←hq.1];exact hq.2.1)
   ·exact M x hx
 exact all r x hx
def NJ (ok:lf P w H h)(e:H a=some (.dT aN)):aN.length<=sizeLine/\(a == sysModules)=false /\
  ∃xs,KT H aN xs/\h.DictOfH (tupleKind (cu P w)) a xs:=p9 ok (.inl e)
end
def pA (H:Hp)(a:Addr)(y:V)(r:Option V):Prop :=
 (∃aN k ob,Rd H a (.dK aN ob)/\y=kV k/\r=jM aN k)∨∃aN k b,Rd H a (.dT aN)/\y=.ref b/\H b=some (.tup (k.map kV))/\r=jM aN k
def NK (H:Hp)(a:Addr)(y v:V)(Q:Hp->Prop):Prop :=
 (∃aN k ob,H a=some (.dK aN ob)/\y=kV k/\aN.length<sizeLine/\∀G,Q (upd H a (.dK (lY aN k v) G))) ∨
 ∃aN k b,H a=some (.dT aN)/\y=.ref b/\H b=some (.tup (k.map kV))/\aN.length<sizeLine/\Q (upd H a (.dT (lY aN k v)))
def pA.t (e:H a=some (.dT aN))(G:H b=some (.tup (k.map kV))):pA H a (.ref b) (jM aN k):=.inr ⟨aN,k,b,.inl e,rfl,G,rfl⟩
section
variable {X:Cx}{ae:AO}{σ:St}{H:Hp}{s:Shared}{a:Addr}{y v:V}{u r:Value}{o:Option V}{A:Around}{E:QV}
def Inv.big (I:Inv X ae σ H s):sysModules<s.heap.objs.size:=by
 have h:mainGlobals<s.heap.objs.size:=(I.mod.glob.keeps I.bk).lt;exact Nat.lt_trans (by decide) h
def Cw (hu:A.units+1<cLine)(I:Inv X ae σ H s)(g:pA H a y (some v))(ry:aY y u)(h:∀O s',Inv X ae σ H s'->aY v O->Q O s'):
  wpAny (model X.prog X.w) A (getItem (.ref a) u) Q E s:=by
 rcases g with⟨aN,k,ob,e,T,l⟩|⟨aN,k,b,e,T,eb,l⟩
 ·subst T;obtain⟨z,hd,vs,G,dd⟩:=p7 I.hok e;obtain⟨O,hw,M⟩:=lb.some_of (v:=v) (o:=valueAt vs k) (by rw[l];exact G.val k);exact wpAny_getItem_of (p6 ry) dd.mapOf hw (h O _ (I.tok _) M)
 ·subst T;cases (show u=Value.ref b from ry)
  obtain⟨z,hd,xs,G,dd⟩:=p9 I.hok e;obtain⟨O,hw,M⟩:=lb.some_of (v:=v) (o:=(atKey xs k).map (·.2)) (by rw[l];exact G.val k);obtain⟨p,hp,U⟩:=oY hw;refine wpAny_getItem_heap (tupleKind_room_in1 hu) (ng I.hok eb) dd hp ?_;rw[U];exact h O _ (I.tok _) M
def Q0 (hu:A.units+1<cLine)(I:Inv X ae σ H s)(g:pA H a y o)(O:aY y u)(h:∀s',Inv X ae σ H s'->Q (.bool o.isSome) s'):
  wpAny (model X.prog X.w) A (compareOp .In u (.ref a)) Q E s:=by
 rcases g with⟨aN,k,ob,e,M,l⟩|⟨aN,k,b,e,M,T,l⟩
 ·subst M;obtain⟨z,hd,vs,G,dd⟩:=p7 I.hok e;refine wpAny_in_of (p6 O) hd dd.mapOf ?_;rw[←(G.val k).isSome_eq,←l];exact h _ (I.tok _)
 ·subst M;cases (show u=Value.ref b from O)
  obtain⟨z,hd,xs,G,dd⟩:=p9 I.hok e;refine wpAny_in_heap (tupleKind_room_in1 hu) (ng I.hok T) hd dd ?_;have q:=(G.val k).isSome_eq;rw[isSome_map]at q;rw[←q,←l];exact h _ (I.tok _)
def GU (hu:A.units+1<cLine)(I:Inv X ae σ H s)(g:pA H a y o)(O:aY y u)(h:∀s',Inv X ae σ H s'->Q (.bool (!o.isSome)) s'):
  wpAny (model X.prog X.w) A (compareOp .NotIn u (.ref a)) Q E s:=by
 rcases g with⟨aN,k,ob,e,M,l⟩|⟨aN,k,b,e,M,T,l⟩
 ·subst M;obtain⟨z,hd,vs,G,dd⟩:=p7 I.hok e;refine wpAny_notIn_of (p6 O) hd dd.mapOf ?_;rw[←(G.val k).isSome_eq,←l];exact h _ (I.tok _)
 ·subst M;cases (show u=Value.ref b from O)
  obtain⟨z,hd,xs,G,dd⟩:=p9 I.hok e;refine wpAny_notIn_heap (tupleKind_room_in1 hu) (ng I.hok T) hd dd ?_;have q:=(G.val k).isSome_eq;rw[isSome_map]at q;rw[←q,←l];exact h _ (I.tok _)
def u7 (I:Inv X ae σ H s)(G:Nb (H a))(hs:Heap.SameBut a s.heap h')(he:∃q,h'.get? a=some q)(new:bT X.prog X.w (upd H a ob) h' a ob):
  Inv X ae σ (upd H a ob) { s with heap:=h',toks:=t' } :=
 I.write (x:=a) (e:=a) G (.inl rfl) (λb q hb z=>(hs.2 b hb).trans z) he new
def DT (z:aN.length<=sizeLine)(hd:(a == sysModules)=false)(G:KV aN vs)(dd:h'.DictOf (cu P w) a vs)(M:h'.get? a=some ob):
  bT P w H' h' a (.dK aN ob):=⟨M,z,hd,vs,G,dd⟩
def Cy (hu:A.units+1<cLine)(I:Inv X ae σ H s)(g:NK H a y v R)(U:aY y u)(rv:aY v r)(h:∀H' s',R H'->Inv X ae σ H' s'->Q () s'):
  wpAny (model X.prog X.w) A (setItem (.ref a) u r) Q E s:=by
 rcases g with⟨aN,k,ob,e,O,l,T⟩|⟨aN,k,b,e,O,eb,l,T⟩
 ·subst O;obtain⟨z,hd,vs,G,dd⟩:=p8 I.hok e;have hz:vs.length<=sizeLine:=by rw[←G.length];exact z
  have hl:(lY aN k v).length<=sizeLine:=by have:=jR aN k v;omega
  refine wpAny_setItem_pairs (hsz:=hz) (p6 U) dd λh' M hs=>?_;obtain⟨q,hq⟩:∃q,h'.get? a=some q:=let ⟨q,_,_,hq,_⟩:=M;⟨q,hq⟩;exact h _ _ (T q) (u7 I (by rw[e];exact True.intro) hs ⟨q,hq⟩ (DT hl hd (G.put k rv) M hq))
 ·subst O;cases (show u=Value.ref b from U)
  obtain⟨z,hd,xs,G,dd⟩:=NJ I.hok e;have hz:xs.length<=sizeLine:=by rw[←Paired.length G];exact z
  have hl:(lY aN k v).length<=sizeLine:=by have:=jR aN k v;omega
  refine wpAny_setItem_heap (hsz:=hz) (tupleKind_room_in1 hu) (ng I.hok eb) dd λh' M hs=>h _ _ T ?_;obtain⟨q,es,ep,hq,h2,h3,h4,_,h5⟩:=M;refine u7 I (by rw[e];exact True.intro) hs ⟨q,hq⟩ ⟨hl,hd,_,(G.put k eb rv).keeps λc ys ec=>?_,q,es,ep,hq,h2,h3,h4,h5⟩;rw[aI (Na ec e (λz=>nomatch z))];exact ec
end
def Lg (i:Expr):Prop:=∀G iv,subscripted i false G iv=operate [G,iv] (getItem G iv)
def GV {prog:Program}{w:World}{A:Around}{E:QV}{s:Shared}{env:Env}{M G:Expr}{pos:Pos}{T id:String}{Q:QV}
  (hl:typeLookup (.type T) "__getitem__" = pure (some (.builtin id))) (hs:Lg G)
  (h:wpAny (model prog w) A (eval M env) (λo s₁=>wpAny (model prog w) A (eval G env) (λi O=>O.TypeIs o T/\wpAny (model prog w) A (getItem o i) Q E O) E s₁) E s):
  wpAny (model prog w) A (eval (.Subscript M G pos) env) Q E s:=by
 refine Subscript_ (wpAny_mono h (λo s₁ h₁=>wpAny_mono h₁ (λi O U=>?_) λ_ _ x=>x) λ_ _ x=>x);obtain⟨hT,U⟩:=U;unfold subscriptTail;refine wX ?_;rw[getitemInPython_of_ne hT.not_modules];refine wX (wpAny_specialOf hT hl ?_);have iB:wpAny (model prog w) A (subscripted G false o i) (λr s₃=>wpAny (model prog w) A (letTemporaryGo M o r>>=λ_=>pure r) Q E s₃) E O:=by
  rw[hs o i];exact wpAny_operating (wpAny_mono U (λr s₃ h₃=>wX (wpAny_letTemporaryGo (wY h₃))) λ_ _ x=>x)
 first
  |exact wY (wX iB)
  |exact wX (wY (wX iB))
  |exact wX iB
def xa (I:Inv X ae σ H s)(g:pA H a y o):s.TypeIs (.ref a) "dict":=by
 rcases g with⟨aN,k,G,e,_,_⟩|⟨aN,k,b,e,_,_,_⟩
 ·obtain⟨_,_,vs,_,dd⟩:=p7 I.hok e;exact dd.typeIs
 ·obtain⟨_,_,xs,_,dd⟩:=p9 I.hok e;exact dd.typeIs
def NL (G ty:TE):TE:=λσ H Q=>G σ H λx M=>ty σ M λy H2=>∃a v,x=.ref a/\pA H2 a y (some v)/\Q v H2
def Q1 (ty G:TE):TE:=λσ H Q=>ty σ H λy M=>G σ M λx H2=>∃a o,x=.ref a/\pA H2 a y o/\Q (.bl o.isSome) H2
def GW (ty G:TE):TE:=λσ H Q=>ty σ H λy M=>G σ M λx H2=>∃a o,x=.ref a/\pA H2 a y o/\Q (.bl (!o.isSome)) H2
def AA (G ty M:TE):TS:=λD σ H=>M σ H λv O=>G σ O λx H2=>ty σ H2 λy T=>∃a,x=.ref a/\NK T a y v (D.nx σ)
section
variable {X:Cx}{o i e value:Expr}{pos Go Mr:Pos}{td ty tv:TE}
def GX (hu:X.A.units+1<cLine)(ho:PE X o td)(hi:PE X i ty)(hs:Lg i):PE X (.Subscript o i pos) (NL td ty):=by
 intro ae s σ H Q I h;refine GV PySem.F.slot_dict_getitem.lookup hs (cn (ho ae s σ H _ I h) λu s1 ⟨x,M,I1,O,T⟩=>cn (hi ae s1 σ M _ I1 T) λiv s2 ⟨y,H2,I2,U,a,v,ex,g,q2⟩=>?_);subst ex;obtain rfl:u=Value.ref a:=O;exact⟨xa I2 g,Cw hu I2 g U λw' s3 I3 G=>⟨v,H2,I3,G,q2⟩⟩
def Lh (hu:X.A.units+1<cLine)(hi:PE X i ty)(ho:PE X o td):PC X .In i o (Q1 ty td):=by
 intro ae s σ H Q I h;refine cn (hi ae s σ H _ I h) λiv s1 ⟨y,G,I1,M,O⟩=>cn (ho ae s1 σ G _ I1 O) λu s2 ⟨x,H2,I2,T,a,U,ex,g,q2⟩=>?_;subst ex;obtain rfl:u=Value.ref a:=T;exact Q0 hu I2 g M λs3 I3=>⟨.bl U.isSome,H2,I3,rfl,q2⟩
def Cz (hu:X.A.units+1<cLine)(hi:PE X i ty)(ho:PE X o td):PC X .NotIn i o (GW ty td):=by
 intro ae s σ H Q I h;refine cn (hi ae s σ H _ I h) λiv s1 ⟨y,G,I1,M,O⟩=>cn (ho ae s1 σ G _ I1 O) λu s2 ⟨x,H2,I2,T,a,U,ex,g,q2⟩=>?_;subst ex;obtain rfl:u=Value.ref a:=T;exact GU hu I2 g M λs3 I3=>⟨.bl (!U.isSome),H2,I3,rfl,q2⟩
def uA (hu:X.A.units+1<cLine)(ho:PE X o td)(hi:PE X i ty)(hv:PE X value tv)(hs:swapsWith value (some (.Subscript o i Go)) pos.line X.env=pure false):
  PS X (.Assign [.Subscript o i Go] value pos) (AA td ty tv):=by
 intro ae s σ H D I h;refine wpAny_Assign_Subscript (cn (hv ae s σ H _ I h) λr s1 ⟨v,G,I1,M,O⟩=>cn (ho ae s1 σ G _ I1 O) λu s2 ⟨x,H2,I2,T,U⟩=>cn (hi ae s2 σ H2 _ I2 U) λiv s3 ⟨y,H3,I3,ry,a,ex,g⟩=>?_) hs;subst ex;obtain rfl:u=Value.ref a:=T;exact Cy hu I3 g ry M λH4 s4 q3 I4=>⟨σ,H4,I4,q3⟩
end
def xc (h:Heap)(hb:sysModules<h.objs.size):bT P w H (h.push { cls:=.type "dict",data:=.dict #[] }) h.objs.size (.dK [] { cls:=.type "dict",data:=.dict #[] }) :=
 ⟨vY _ rfl,uN _,beq_eq_false_iff_ne.mpr (Ne.symm (vS hb)),[],.nil,Heap.DictOf.new h⟩
def DU (h:Heap)(hb:sysModules<h.objs.size):bT P w H (h.push { cls:=.type "dict",data:=.dict #[] }) h.objs.size (.dT []) :=
 ⟨uN _,beq_eq_false_iff_ne.mpr (Ne.symm (vS hb)),[],.nil,_,#[],0,vY _ rfl,⟨rfl,rfl,rfl⟩,rfl,rfl,nodup_nil⟩
def DV:TE:=λ_ H Q=>∀p ob,H p=none->Q (.ref p) (upd H p (.dK [] ob))
def DW:TE:=λ_ H Q=>∀p,H p=none->Q (.ref p) (upd H p (.dT []))
section
variable {X:Cx}{pos:Pos}
def DX:PE X (.Dict [] [] pos) DV:=λae s σ H Q I h=>
 wpAny_Dict_empty ⟨.ref s.heap.objs.size,_,I.laid (a:=s.heap.objs.size) (o:=.dK [] { cls:=.type "dict",data:=.dict #[] }) (t':=s.toks) (λ_ _ q=>vZ _ q) (vT _) (xc s.heap I.big),rfl,h _ _ (I.hok.fresh (vT _))⟩
def DY:PE X (.Dict [] [] pos) DW:=λae s σ H Q I h=>
 wpAny_Dict_empty ⟨.ref s.heap.objs.size,_,I.laid (a:=s.heap.objs.size) (o:=.dT []) (t':=s.toks) (λ_ _ q=>vZ _ q) (vT _) (DU s.heap I.big),rfl,h _ (I.hok.fresh (vT _))⟩
end
structure M1 (X:Cx)(o:Expr)(m:Str)(di:Pos)(e:Expr)(cx:Pos):Prop where
 base:attributeBase o m X.env (eval o X.env)=eval o X.env
 few:((backTo cx (starEach [e] X.env)).all (λx=>!x.1) && (backToKw cx (keywordEach [] X.env)).all (λx=>x.1.isSome)
  && decide (([e]:List Expr).length+([]:List Keyword).length+(if([]:List Keyword).isEmpty then 0 else 1)<30))=true
 line:(di.endLine == cx.line)=true
 trees:backTo cx (starEach [e] X.env)=[(false,eval e X.env)]
def S5 (H:Hp)(a:Addr):Prop:=(∃aN ob,Rd H a (.dK aN ob))∨∃aN,Rd H a (.dT aN)
def Li (I:Inv X ae σ H s)(d:S5 H a):
  s.TypeIs (.ref a) "dict"/\(∀b,Value.ref a=.ref b->∃ob,s.heap.get? b=some ob/\ob.dict=none)/\(a == sysModules)=false:=by
 rcases d with⟨aN,G,e⟩|⟨aN,e⟩
 ·obtain⟨_,hd,vs,_,dd⟩:=p7 I.hok e;refine⟨dd.typeIs,λb q=>?_,hd⟩;cases q
  obtain⟨ob,_,_,h1,h2,_⟩:=dd;exact⟨ob,h1,h2.2.1⟩
 ·obtain⟨_,hd,xs,_,dd⟩:=p9 I.hok e;refine⟨dd.typeIs,λb q=>?_,hd⟩;cases q
  obtain⟨ob,_,_,h1,h2,_⟩:=dd;exact⟨ob,h1,h2.2.1⟩
section
variable {X:Cx}{ae:AO}{σ:St}{H:Hp}{s:Shared}{a:Addr}{y d:V}{u r:Value}{o:Option V}{A:Around}{E:QV}
def Lj (hu:A.units+1<cLine)(I:Inv X ae σ H s)(g:pA H a y o)(O:aY y u)(h:∀T s',Inv X ae σ H s'->aY (o.getD .non) T->Q T s'):
  wpAny (model X.prog X.w) A (call (.builtin "dict.get") [.ref a,u]) Q E s:=by
 rcases g with⟨aN,k,ob,e,M,l⟩|⟨aN,k,b,e,M,U,l⟩
 ·subst M;obtain⟨z,hd,vs,G,dd⟩:=p7 I.hok e;refine call_meetsIn slot_dict_get dd.typeIs entry_dict_get (PySem.F.args_dict_get_2 _ _) (meets_dict_get (cu X.prog X.w) a (p6 O) hd) ⟨_,dd.mapOf,h _ _ (I.tok _) ?_⟩;rw[l];exact(G.val k).getD rfl
 ·subst M;cases (show u=Value.ref b from O)
  obtain⟨z,hd,xs,G,dd⟩:=p9 I.hok e;refine call_meetsIn slot_dict_get dd.typeIs entry_dict_get (PySem.F.args_dict_get_2 _ _) (meetsH_dict_get (tupleKind (cu X.prog X.w)) a b hd) ⟨tupleKind_room_in1 hu,k,xs,ng I.hok U,dd,h _ _ (I.tok _) ?_⟩;rw[l];exact(G.val k).getD rfl
end
def Ll (M ty:TE):TE:=λσ H Q=>M σ H λx G=>∃a,x=.ref a/\S5 G a/\ty σ G λy H2=>∃o,pA H2 a y o/\Q (o.getD .non) H2
section
variable {X:Cx}{o e f:Expr}{di cx:Pos}{td ty tx:TE}
def xf (hu:X.A.units+1<cLine)(ho:PE X o td)(he:PE X e ty)(m:M1 X o "get" di e cx):PE X (.Call (.Attribute o "get" di) [e] [] cx) (Ll td ty):=by
 intro ae s σ H Q I h;refine wpAny_Call_method m.base m.few m.line plainAttrs_dict slot_dict_get PySem.F.type_dict_get (cn (ho ae s σ H _ I h) λu s1 ⟨x,M,I1,O,a,ex,d,T⟩=>?_);subst ex;obtain rfl:u=Value.ref a:=O;obtain⟨U,t2,_⟩:=Li I1 d;refine⟨U,t2,?_⟩;rw[m.trees];refine Calls.callWith_builtin rfl (Calls.evalArgs_plain (Calls.spliced_cons (cn (he ae s1 σ M _ I1 T) λiv s2 ⟨y,H2,I2,ry,ov,g,q2⟩=>Calls.spliced_nil ?_)));exact Lj hu I2 g ry λw' s3 I3 G=>⟨_,H2,I3,G,q2⟩
end
end L2
namespace DL
open PySem L2
set_option linter.all false
abbrev St:=L2.St
inductive D where
 |non|bl (b:Bool)|int (i:Int)|str (x:Str)|ty (n:String)|tup (ds:List D)|lst (ds:List D)
  |dk (ks:List eC) (vs:List D)|dt (ks:List (List eC)) (vs:List D)
abbrev LD:=List D
abbrev LV:=List V
abbrev LK:=List eC
abbrev OB:=Option (D×Bool)
mutual
inductive Is (K:Frag)(H:Hp):V->D->Prop where
 |non:Is K H .non .non
 |bl (b:Bool):Is K H (.bl b) (.bl b)
 |int (i:Int):Is K H (.int i) (.int i)
 |str (x:Str):Is K H (.str x) (.str x)
 |ty (n:String):Is K H (.ty n) (.ty n)
 |tup {a:Addr}{vs:List V}{ds:List D}(h:iY K H a vs) (hs:IsL K H vs ds):Is K H (.ref a) (.tup ds)
 |lst {a:Addr}{vs:List V}{ds:List D}(h:fT K H a vs) (hs:IsL K H vs ds):Is K H (.ref a) (.lst ds)
 |dk {a:Addr}{ks:List eC}{vs:List V}{ds:List D}{ob:Obj}(h:H a=some (.dK (ks.zip vs) ob)) (hl:ks.length=vs.length) (hs:IsL K H vs ds):Is K H (.ref a) (.dk ks ds)
 |dt {a:Addr}{ks:List (List eC)}{vs:List V}{ds:List D}(h:H a=some (.dT (ks.zip vs))) (hl:ks.length=vs.length) (hs:IsL K H vs ds):Is K H (.ref a) (.dt ks ds)
inductive IsL (K:Frag)(H:Hp):List V->List D->Prop where
 |nil:IsL K H [] []
 |cons {v:V}{d:D}{vs:List V}{ds:List D}(h:Is K H v d) (hs:IsL K H vs ds):IsL K H (v::vs) (d::ds)
end
mutual
def bx:D->Bool
 |.lst _=>false
 |.dk _ _=>false
 |.dt _ _=>false
 |.tup ds=>bH ds
 |_=>true
def bH:LD->Bool
 |[]=>true
 |d::ds=>bx d && bH ds
end
@[simp] def M8:bx .non=true:=by simp only[bx]
@[simp] def NM (b:Bool):bx (.bl b)=true:=by simp only[bx]
@[simp] def M9 (i:Int):bx (.int i)=true:=by simp only[bx]
@[simp] def MA (x:Str):bx (.str x)=true:=by simp only[bx]
@[simp] def NN (x:String):bx (.ty x)=true:=by simp only[bx]
@[simp] def MB (ds:LD):bx (.tup ds)=bH ds:=by rw[bx]
@[simp] def MC (ds:LD):bx (.lst ds)=false:=by rw[bx]
@[simp] def NO (ks:LK)(ds:LD):bx (.dk ks ds)=false:=by rw[bx]
@[simp] def NP (ks:List LK)(ds:LD):bx (.dt ks ds)=false:=by rw[bx]
@[simp] def Lm:bH []=true:=by rw[bH]
@[simp] def JB (d:D)(ds:LD):bH (d::ds)=(bx d && bH ds):=by rw[bH]
section
variable {K:Frag}{H H':Hp}
mutual
theorem Is.keep (G:∀a vs,iY K H a vs->iY K H' a vs)(M:∀a vs,fT K H a vs->fT K H' a vs)(O:∀a aN ob,H a=some (.dK aN ob)->H' a=some (.dK aN ob))(T:∀a aN,H a=some (.dT aN)->H' a=some (.dT aN)):∀ {v:V}{d:D},Is K H v d->Is K H' v d
 |_,_,.non=>.non
 |_,_,.bl b=>.bl b
 |_,_,.int i=>.int i
 |_,_,.str x=>.str x
 |_,_,.ty x=>.ty x
 |_,_,.tup h hs=>.tup (G _ _ h) (IsL.keep G M O T hs)
 |_,_,.lst h hs=>.lst (M _ _ h) (IsL.keep G M O T hs)
 |_,_,.dk h hl hs=>.dk (O _ _ _ h) hl (IsL.keep G M O T hs)
 |_,_,.dt h hl hs=>.dt (T _ _ h) hl (IsL.keep G M O T hs)
theorem IsL.keep (G:∀a vs,iY K H a vs->iY K H' a vs)(M:∀a vs,fT K H a vs->fT K H' a vs)(O:∀a aN ob,H a=some (.dK aN ob)->H' a=some (.dK aN ob))(T:∀a aN,H a=some (.dT aN)->H' a=some (.dT aN)):∀ {vs:LV}{ds:LD},IsL K H vs ds->IsL K H' vs ds
 |_,_,.nil=>.nil
 |_,_,.cons h hs=>.cons (Is.keep G M O T h) (IsL.keep G M O T hs)
end
mutual
theorem Is.keepT (G:∀a vs,iY K H a vs->iY K H' a vs):∀ {v:V}{d:D},Is K H v d->bx d=true->Is K H' v d
 |_,_,.non,_=>.non
 |_,_,.bl b,_=>.bl b
 |_,_,.int i,_=>.int i
 |_,_,.str x,_=>.str x
 |_,_,.ty x,_=>.ty x
 |_,_,.tup h hs,n=>.tup (G _ _ h) (IsL.keepT G hs (by simpa using n))
 |_,_,.lst h hs,n=>by simp at n
 |_,_,.dk h hl hs,n=>by simp at n
 |_,_,.dt h hl hs,n=>by simp at n
theorem IsL.keepT (G:∀a vs,iY K H a vs->iY K H' a vs):∀ {vs:LV}{ds:LD},IsL K H vs ds->bH ds=true->IsL K H' vs ds
 |_,_,.nil,_=>.nil
 |_,_,.cons h hs,n=>by
  simp at n;exact .cons (Is.keepT G h n.1) (IsL.keepT G hs n.2)
end
def bz (e:bc H H')(h:iY K H a xs):iY K H' a xs:=by
 rcases h with (h|⟨o,h⟩)|h
 ·exact .inl (.inl (e _ _ h))
 ·exact .inl (.inr ⟨o,e _ _ h⟩)
 ·exact .inr h
def Is.mono (h:Is K H v d)(e:bc H H'):Is K H' v d:=h.keep (λ_ _=>bz e) (λ_ _=>e.seq) (λ_ _ _ q=>e _ _ q) λ_ _ q=>e _ _ q
def IsL.mono (h:IsL K H v d)(e:bc H H'):IsL K H' v d:=h.keep (λ_ _=>bz e) (λ_ _=>e.seq) (λ_ _ _ q=>e _ _ q) λ_ _ q=>e _ _ q
theorem IsL.length:∀ {vs:LV}{ds:LD},IsL K H vs ds->vs.length=ds.length
 |_,_,.nil=>rfl
 |_,_,.cons _ t=>congrArg (· + 1) t.length
theorem IsL.get:∀ {vs:LV}{ds:LD}{i:Nat}{d:D},IsL K H vs ds->ds[i]? = some d->∃v,vs[i]? = some v/\Is K H v d
 |_,_,_,_,.nil,e=>by simp at e
 |_,_,0,_,.cons h _,e=>by simp at e;subst e;exact⟨_,rfl,h⟩
 |_,_,i+1,d,.cons _ t,e=>by
  obtain⟨u,h1,h2⟩:=t.get (i:=i) (d:=d) (by simpa using e);exact⟨u,by simpa using h1,h2⟩
theorem IsL.append:∀ {vs G:LV}{ds es:LD},IsL K H vs ds->IsL K H G es->IsL K H (vs++G) (ds++es)
 |_,_,_,_,.nil,s=>s
 |_,_,_,_,.cons r t,s=>.cons r (t.append s)
theorem IsL.take:∀ {vs:LV}{ds:LD}(n:Nat),IsL K H vs ds->IsL K H (vs.take n) (ds.take n)
 |_,_,0,_=>by simpa using IsL.nil
 |_,_,_+1,.nil=>.nil
 |_,_,n+1,.cons r t=>.cons r (t.take n)
theorem IsL.drop:∀ {vs:LV}{ds:LD}(n:Nat),IsL K H vs ds->IsL K H (vs.drop n) (ds.drop n)
 |_,_,0,r=>r
 |_,_,_+1,.nil=>.nil
 |_,_,n+1,.cons _ t=>t.drop n
def IsL.reverse (h:IsL K H vs ds):IsL K H vs.reverse ds.reverse:=by
 cases h with
 |nil=>exact .nil
 |cons r t=>rw[reverse_cons,reverse_cons];exact t.reverse.append (.cons r .nil)
termination_by vs.length
decreasing_by all_goals simp
theorem IsL.set (h:Is K H v d):∀ {vs:LV}{ds:LD}(i:Nat),IsL K H vs ds->IsL K H (vs.set i v) (ds.set i d)
 |_,_,_,.nil=>.nil
 |_,_,0,.cons _ t=>.cons h t
 |_,_,i+1,.cons r t=>.cons r (IsL.set h i t)
def IsL.flat {vs:LV}{ns:LI}(h:vs=ns.map V.int):IsL K H vs (ns.map D.int):=by
 subst h;induction ns with
 |nil=>exact .nil
 |cons n ns G=>exact .cons (.int n) G
end
structure Ext (B N H H':Hp):Prop where
 hh:bc H H'
 bn:bc B N
 nh:bc N H'
 new:∀a o,N a=some o->B a=some o∨H a=none
def Ext.refl (h:bc B H):Ext B B H H:=⟨.refl _,.refl _,h,λ_ _ e=>.inl e⟩
def Ext.trans (x:Ext B N H H1)(y:Ext N N2 H1 H2):Ext B N2 H H2 :=
 ⟨x.hh.trans y.hh,x.bn.trans y.bn,y.nh,λa o e=>(y.new a o e).elim (λq=>x.new a o q) λq=>.inr (x.hh.free q)⟩
def Ext.laid (h:bc B H)(hp:H p=none):Ext B (upd B p o) H (upd H p o):=by
 have G:B p=none:=h.free hp;refine⟨λa u e=>?_,λa u e=>?_,λa u e=>?_,λa u e=>?_⟩
 ·rw[aI (λq=>by subst q;rw[hp]at e;cases e)];exact e
 ·rw[aI (λq=>by subst q;rw[G]at e;cases e)];exact e
 ·by_cases q:a=p
  ·subst q;rw[aC]at e ⊢;exact e
  ·rw[aI q]at e ⊢;exact h _ _ e
 ·by_cases q:a=p
  ·subst q;exact .inr hp
  ·rw[aI q]at e;exact .inl e
def Ext.grow (h:bc B H)(hh:bc H H'):Ext B B H H':=⟨hh,.refl _,h.trans hh,λ_ _ e=>.inl e⟩
abbrev Env:=List OB
abbrev FE:=Env->OB
abbrev FA:=Env->Option LD
abbrev FT:=Env->Option Bool
def MD (K:Frag)(H N:Hp)(v:V)(d:D):Prop:=∃(a:Addr)(vs:LV)(ds:LD),v=.ref a/\d=.lst ds/\H a=none/\N a=some (.lst vs)/\IsL K N vs ds
def MD.back (h:MD K H' N v d)(e:bc H H'):MD K H N v d:=let ⟨a,vs,ds,q,y,z,r⟩:=h;⟨a,vs,ds,q,y,e.free z,r⟩
noncomputable def md:LS:=["in_order","has_seal","is_first_death","bases_by"]
noncomputable def pB (x:Str):Str:=x ++ ".<locals>." ++ "<lambda>"
def Tb (K:Frag)(B:Hp):Prop:=∀x∈md,∀c P,PySem.W.tabIn K x=some (c,P)->B P=some (.tbl (pB x))
def Tb.mono (h:Tb K B)(e:bc B B'):Tb K B':=λx hx c P q=>e _ _ (h x hx c P q)
structure fR (K:Frag)(B:Hp)(σ:St)(ρ:Env):Prop where
 tb:Tb K B
 at':∀(i:Nat)(d:D)(b:Bool),ρ[i]? = some (some (d,b))->∃v,σ[i]? = some (some v)/\Is K B v d
def fR.mono (h:fR K B σ ρ)(e:bc B B'):fR K B' σ ρ:=⟨h.tb.mono e,λi d b q=>let ⟨v,h1,h2⟩:=h.at' i d b q;⟨v,h1,h2.mono e⟩⟩
def Fin (K:Frag)(B H:Hp)(d:D)(b:Bool)(Q:VK):Prop:=∀(v:V)(H' N:Hp),Ext B N H H'->Is K N v d->(b=true->MD K H N v d)->Q v H'
def tD (K:Frag)(f:FE):TE:=λσ H Q=>∃(B:Hp)(ρ:Env)(d:D)(b:Bool),bc B H/\fR K B σ ρ/\f ρ=some (d,b)/\Fin K B H d b Q
def AB (K:Frag)(f:FT):TT:=λσ H Q=>∃(B:Hp)(ρ:Env)(c:Bool),bc B H/\fR K B σ ρ/\f ρ=some c/\∀H',bc H H'->Q c H'
def Ln (K:Frag)(f:FA):TA:=λσ H Q=>∃(B:Hp)(ρ:Env)(ds:LD),bc B H/\fR K B σ ρ/\f ρ=some ds/\∀(vs:LV)(H' N:Hp),Ext B N H H'->IsL K N vs ds->Q vs H'
def rD (K:Frag)(op:D->D->OB):R2:=λx y H Q=>∃(B:Hp)(dx G d:D)(b:Bool),bc B H/\Is K B x dx/\Is K B y G/\op dx G=some (d,b)/\Fin K B H d b Q
def Q2 (K:Frag)(op:D->OB):V->Hp->VK->Prop:=λx H Q=>∃(B:Hp)(dx d:D)(b:Bool),bc B H/\Is K B x dx/\op dx=some (d,b)/\Fin K B H d b Q
def AD (K:Frag)(op:LD->OB):LV->Hp->VK->Prop:=λxs H Q=>∃(B:Hp)(ds:LD)(d:D)(b:Bool),bc B H/\IsL K B xs ds/\op ds=some (d,b)/\Fin K B H d b Q
def Fin.one (h:Fin K B H d false Q)(s:bc B H)(i:Is K B v d):Q v H:=h v H B (.refl s) i (by simp)
def Fin.into (h:Fin K B H d b Q)(x:Ext B N H H1):Fin K N H1 d b Q:=λv H' N' y i G=>h v H' N' (x.trans y) i λe=>(G e).back x.hh
@[simp] noncomputable def fC (d:D):FE:=λ_=>some (d,false)
@[simp] noncomputable def ai (i:Nat):FE:=λρ=>match ρ[i]? with|some (some (d,_))=>some (d,false)|_=>none
@[simp] noncomputable def f2 (op:D->D->OB)(fa G:FE):FE:=λρ=>(fa ρ).bind λx=>(G ρ).bind λy=>op x.1 y.1
@[simp] noncomputable def f1 (op:D->OB)(fa:FE):FE:=λρ=>(fa ρ).bind λx=>op x.1
@[simp] noncomputable def aj:FA:=λ_=>some []
@[simp] noncomputable def af (fa:FE)(G:FA):FA:=λρ=>(fa ρ).bind λx=>(G ρ).bind λxs=>some (x.1::xs)
@[simp] noncomputable def fA (op:LD->OB)(fa:FA):FE:=λρ=>(fa ρ).bind op
def Lo (h:tD K (ai i) σ H Q):∃v,σ[i]? = some (some v)/\Q v H:=by
 obtain⟨B,ρ,d,b,s,r,e,q⟩:=h;unfold ai at e;split at e
 ·rename_i d' b' G;cases e
  obtain⟨v,h1,h2⟩:=r.at' i _ _ G;exact⟨v,h1,q.one s h2⟩
 ·cases e
def GY (h:tD K (f2 op fa fb) σ H Q):tD K fa σ H λx O=>tD K fb σ O λy H2=>rD K op x y H2 Q:=by
 obtain⟨B,ρ,d,b,s,r,e,q⟩:=h;obtain⟨x,ex,e⟩:=oX e;obtain⟨y,T,e⟩:=oX e;refine⟨B,ρ,x.1,x.2,s,r,ex,λv O N G U _=>⟨N,ρ,y.1,y.2,G.nh,r.mono G.bn,T,λv2 H2 N2 M i2 _=>⟨N2,x.1,y.1,d,b,M.nh,U.mono M.bn,i2,e,?_⟩⟩⟩;exact q.into (G.trans M)
def Q3 (h:tD K (f1 op fa) σ H Q):tD K fa σ H λx G=>Q2 K op x G Q:=by
 obtain⟨B,ρ,d,b,s,r,e,q⟩:=h;obtain⟨x,ex,e⟩:=oX e;exact⟨B,ρ,x.1,x.2,s,r,ex,λv G N M O _=>⟨N,x.1,d,b,M.nh,O,e,q.into M⟩⟩
def GZ (h:tD K (fA op fa) σ H Q):Ln K fa σ H λxs G=>AD K op xs G Q:=by
 obtain⟨B,ρ,d,b,s,r,e,q⟩:=h;obtain⟨x,ex,e⟩:=oX e;exact⟨B,ρ,x,s,r,ex,λv G N M O=>⟨N,x,d,b,M.nh,O,e,q.into M⟩⟩
def Ha (h:Ln K aj σ H Q):Q [] H:=by
 obtain⟨B,ρ,ds,s,r,e,q⟩:=h;cases e
 exact q [] H B (.refl s) .nil
def DZ (h:Ln K (af fa fr) σ H Q):tD K fa σ H λx M=>Ln K fr σ M λxs H2=>Q (x::xs) H2:=by
 obtain⟨B,ρ,ds,s,r,e,q⟩:=h;obtain⟨x,ex,e⟩:=oX e;obtain⟨y,T,e⟩:=oX e;cases e
 exact⟨B,ρ,x.1,x.2,s,r,ex,λv M N G U _=>⟨N,ρ,y,G.nh,r.mono G.bn,T,λvs H2 N2 O i2=>q _ H2 N2 (G.trans O) (.cons (U.mono O.bn) i2)⟩⟩
@[simp] noncomputable def bj (f:FE):FT:=λρ=>match f ρ with|some (.bl c,_)=>some c|_=>none
@[simp] noncomputable def fG (f g:FT):FT:=λρ=>match f ρ with|some true=>g ρ|some false=>some false|none=>none
@[simp] noncomputable def gY (f g:FT):FT:=λρ=>match f ρ with|some true=>some true|some false=>g ρ|none=>none
@[simp] noncomputable def dC (f:FT):FT:=λρ=>(f ρ).map (!·)
open Classical in
noncomputable def dz (H:Hp)(P:Addr->Prop):Hp:=λa=>if P a then none else H a
def cX (h:¬P a):dz H P a=H a:=by unfold dz;rw[if_neg h]
def zD (h:P a):dz H P a=none:=by unfold dz;rw[if_pos h]
def pC (h:dz H P a=some o):¬P a/\H a=some o:=by
 by_cases q:P a
 ·rw[zD q]at h;cases h
 ·rw[cX q]at h;exact⟨q,h⟩
def bJ:bc (dz H P) H:=λ_ _ e=>(pC e).2
def dL (e:∀a o,H a=some o->¬P a->H' a=some o/\¬P' a):bc (dz H P) (dz H' P'):=λa o q=>by
 obtain⟨h1,h2⟩:=pC q;obtain⟨h3,h4⟩:=e a o h2 h1;rw[cX h4];exact h3
noncomputable def join (N N':Hp):Hp:=λa=>match N a with|some o=>some o|none=>N' a
def eM:bc N (join N N'):=λa o e=>by unfold join;rw[e]
def eE (e:N a=none):join N N' a=N' a:=by unfold join;rw[e]
def own (σ:St)(ρ:Env)(a:Addr):Prop:=∃(i:Nat)(d:D),ρ[i]? = some (some (d,true))/\σ[i]? = some (some (V.ref a))
inductive Bx (K:Frag)(C:Hp):HO->D->Prop where
 |lst {vs:List V}{ds:List D}(h:IsL K C vs ds):Bx K C (.lst vs) (.lst ds)
 |dk {ks:List eC}{vs:List V}{ds:List D}(hl:ks.length=vs.length) (h:IsL K C vs ds) {ob:Obj}:Bx K C (.dK (ks.zip vs) ob) (.dk ks ds)
 |dt {ks:List (List eC)}{vs:List V}{ds:List D}(hl:ks.length=vs.length) (h:IsL K C vs ds):Bx K C (.dT (ks.zip vs)) (.dt ks ds)
def Bx.mono (h:Bx K C o d)(e:bc C C'):Bx K C' o d:=by
 cases h with
 |lst h=>exact .lst (h.mono e)
 |dk hl h=>exact .dk hl (h.mono e)
 |dt hl h=>exact .dt hl (h.mono e)
def Bx.is (h:Bx K C o d)(e:C a=some o):Is K C (.ref a) d:=by
 cases h with
 |lst h=>exact .lst (fT.of e) h
 |dk hl h=>exact .dk e hl h
 |dt hl h=>exact .dt e hl h
structure eB (K:Frag)(B0 H0 N H:Hp)(σ:St)(ρ:Env):Prop where
 bh:bc B0 H0
 tb:Tb K B0
 ext:Ext B0 N H0 H
 len:ρ.length=σ.length
 sh:∀(i:Nat)(d:D),ρ[i]? = some (some (d,false))->∃v,σ[i]? = some (some v)/\Is K (dz N (own σ ρ)) v d
 ow:∀(i:Nat)(d:D),ρ[i]? = some (some (d,true))->∃(a:Addr)(o:HO),σ[i]? = some (some (V.ref a))/\N a=some o/\H0 a=none/\Bx K (dz N (own σ ρ)) o d
 inj:∀(i j:Nat)(a:Addr)(d e:D),ρ[i]? = some (some (d,true))->ρ[j]? = some (some (e,true))->σ[i]? = some (some (V.ref a))->σ[j]? = some (some (V.ref a))->i=j
def uB (K:Frag)(B0 H0 H:Hp)(σ:St)(ρ:Env):Prop:=∃N,eB K B0 H0 N H σ ρ
section
variable {K:Frag}{B0 H0 N H H':Hp}{σ:St}{ρ:Env}
def eB.owL (s:eB K B0 H0 N H σ ρ)(i:Nat)(d:D)(q:ρ[i]? = some (some (.lst es,true)))(hd:d=.lst es:=by rfl):∃(a:Addr)(vs:LV)(ds:LD),d=.lst ds/\σ[i]? = some (some (V.ref a))/\N a=some (.lst vs)/\H0 a=none/\IsL K (dz N (own σ ρ)) vs ds:=by
 obtain⟨a,o,h1,h2,h3,h4⟩:=s.ow i _ q;cases h4 with
 |lst h4=>exact⟨a,_,es,hd,h1,h2,h3,h4⟩
def boxed:HO->Prop
 |.lst _|.dK _ _|.dT _=>True
 |_=>False
def Bx.boxed (h:Bx K C o d):boxed o:=by cases h<;>exact trivial
def eB.owned (s:eB K B0 H0 N H σ ρ)(h:own σ ρ a):∃o,(N a=some o/\boxed o)/\H0 a=none:=by
 obtain⟨i,d,h1,h2⟩:=h;obtain⟨M,o,h3,h4,h5,G⟩:=s.ow i d h1;rw[h2]at h3;cases h3;exact⟨o,⟨h4,G.boxed⟩,h5⟩
def eB.rep (s:eB K B0 H0 N H σ ρ):fR K N σ ρ:=⟨s.tb.mono s.ext.bn,λi d b q=>by
 cases b with
 |false=>obtain⟨v,h1,h2⟩:=s.sh i d q;exact⟨v,h1,h2.mono bJ⟩
 |true=>
  obtain⟨a,o,h2,h3,_,h4⟩:=s.ow i d q;exact⟨_,h2,(h4.mono bJ).is h3⟩⟩
noncomputable def fE (ρ:Env):Env:=ρ.map λx=>match x with|some (d,false)=>some (d,false)|_=>none
def Ea {i:Nat}{d:D}{b:Bool}(h:(fE ρ)[i]? = some (some (d,b))):b=false/\ρ[i]? = some (some (d,false)):=by
 unfold fE at h;rw[vA]at h;cases e:ρ[i]? with
 |none=>rw[e]at h;cases h
 |some x=>
  rw[e]at h;match x,h with
  |some (d',false),h=>cases h;exact⟨rfl,rfl⟩
  |some (d',true),h=>cases h
  |none,h=>cases h
def eB.tbC (s:eB K B0 H0 N H σ ρ):Tb K (dz N (own σ ρ)):=λx hx c P q=>by
 have z:=s.tb.mono s.ext.bn x hx c P q;rw[cX]
 ·exact z
 ·intro y;obtain⟨o,⟨y,G⟩,_⟩:=s.owned y;rw[z]at y;cases y;exact G
def eB.repH (s:eB K B0 H0 N H σ ρ):fR K (dz N (own σ ρ)) σ (fE ρ):=⟨s.tbC,λi d b q=>by
 obtain⟨rfl,G⟩:=Ea q;exact s.sh i d G⟩
def eB.grow (s:eB K B0 H0 N H σ ρ)(x:Ext N N' H H'):eB K B0 H0 N' H' σ ρ:=by
 have c:bc (dz N (own σ ρ)) (dz N' (own σ ρ)):=dL λa o e q=>⟨x.bn a o e,q⟩;refine⟨s.bh,s.tb,s.ext.trans x,s.len,λi d q=>?_,λi d q=>?_,s.inj⟩
 ·obtain⟨v,h1,h2⟩:=s.sh i d q;exact⟨v,h1,h2.mono c⟩
 ·obtain⟨a,o,h2,h3,h4,h5⟩:=s.ow i d q;exact⟨a,o,h2,x.bn _ _ h3,h4,h5.mono c⟩
def eB.growH (s:eB K B0 H0 N H σ ρ)(x:Ext (dz N (own σ ρ)) N' H H'):eB K B0 H0 (join N N') H' σ ρ/\bc N' (dz (join N N') (own σ ρ)):=by
 have M:Ext N (join N N') H H':=by
  refine⟨x.hh,eM,λa o e=>?_,λa o e=>?_⟩
  ·cases q:N a with
   |some u=>
    have:join N N' a=some u:=eM _ _ q;rw[this]at e;cases e;exact x.hh _ _ (s.ext.nh _ _ q)
   |none=>rw[eE q]at e;exact x.nh _ _ e
  ·cases q:N a with
   |some u=>
    have:join N N' a=some u:=eM _ _ q;rw[this]at e;cases e;exact .inl rfl
   |none=>
    rw[eE q]at e;rcases x.new a o e with z|z
    ·have:=bJ _ _ z;rw[q]at this;cases this
    ·exact .inr z
 refine⟨s.grow M,λa o e=>?_⟩;rcases x.new a o e with z|z
 ·obtain⟨O,T⟩:=pC z;rw[cX O];exact eM _ _ T
 ·have G:N a=none:=s.ext.nh.free z;have:¬own σ ρ a:=λq=>by obtain⟨vs,⟨q,_⟩,_⟩:=s.owned q;rw[G]at q;cases q
  rw[cX this,eE G];exact e
noncomputable def unown (ρ:Env):Env:=ρ.map λx=>x.map λy=>(y.1,false)
def kK {i:Nat}{d:D}{b:Bool}(h:(unown ρ)[i]? = some (some (d,b))):b=false/\∃c,ρ[i]? = some (some (d,c)):=by
 unfold unown at h;rw[vA]at h;cases e:ρ[i]? with
 |none=>rw[e]at h;cases h
 |some x=>
  rw[e]at h;match x,h with
  |some (d',c),h=>cases h;exact⟨rfl,c,rfl⟩
  |none,h=>cases h
def sQ {a:Addr}:¬own σ (unown ρ) a:=λ⟨i,d,h,_⟩=>by
 obtain⟨z,_⟩:=kK h;cases z
def eB.unown (s:eB K B0 H0 N H σ ρ):eB K B0 H0 N H σ (unown ρ):=by
 refine⟨s.bh,s.tb,s.ext,by unfold DL.unown;rw[vI];exact s.len,λi d q=>?_,λi d q=>?_,λi j a d e q=>?_⟩
 ·obtain⟨_,c,q⟩:=kK q;obtain⟨v,h1,h2⟩:=s.rep.at' i d c q;exact⟨v,h1,h2.mono λa o e=>by rw[cX sQ];exact e⟩
 ·obtain⟨z,_⟩:=kK q;cases z
 ·obtain⟨z,_⟩:=kK q;cases z
def cm {α:Type}{l:List α}{i j:Nat}{x y:α}(h:(l.set i x)[j]? = some y):(i=j/\x=y)∨(i≠j/\l[j]? = some y):=by
 by_cases e:i=j
 ·subst e;rw[List.getElem?_set]at h;split at h
  ·split at h
   ·exact .inl ⟨rfl,vK h⟩
   ·cases h
  ·contradiction
 ·rw[vB e]at h;exact .inr ⟨e,h⟩
def sR {α G:Type}{l:List α}{m:List G}{i:Nat}{x y:α}(h:(l.set i x)[i]? = some y)(e:l.length=m.length):i<m.length:=by
 obtain⟨h,_⟩:=vV h;rw[length_set]at h;omega
def uC {i:Nat}{v:V}{x:OB}{a:Addr}(h:own (σ.set i (some v)) (ρ.set i x) a):(v=.ref a/\∃d,x=some (d,true))∨∃j,j≠i/\∃d,ρ[j]? = some (some (d,true))/\σ[j]? = some (some (V.ref a)):=by
 obtain⟨j,d,h1,h2⟩:=h;rcases cm h1 with⟨e,q⟩|⟨e,q⟩
 ·rcases cm h2 with⟨e2,G⟩|⟨e2,G⟩
  ·cases G;exact .inl ⟨rfl,d,q⟩
  ·exact absurd e e2
 ·rcases cm h2 with⟨e2,G⟩|⟨e2,G⟩
  ·exact absurd e2 e
  ·exact .inr ⟨j,λz=>e z.symm,d,q,G⟩
def eB.bind (s:eB K B0 H0 N H σ ρ){i:Nat}{v:V}{d:D}(h:Is K (dz N (own σ ρ)) v d):eB K B0 H0 N H (σ.set i (some v)) (ρ.set i (some (d,false))):=by
 have o:∀a,own (σ.set i (some v)) (ρ.set i (some (d,false))) a->own σ ρ a:=λa q=>by
  rcases uC q with⟨_,d',p⟩|⟨j,_,d',O,T⟩
  ·cases p
  ·exact⟨j,d',O,T⟩
 have c:bc (dz N (own σ ρ)) (dz N (own (σ.set i (some v)) (ρ.set i (some (d,false))))):=dL λa u e q=>⟨e,λz=>q (o a z)⟩;refine⟨s.bh,s.tb,s.ext,by simp[s.len],λj e q=>?_,λj e q=>?_,λj k a e f q U h1 h2=>?_⟩
 ·rcases cm q with⟨rfl,p⟩|⟨ne,p⟩
  ·cases p
   have hi:=sR q s.len;exact⟨v,by simp[hi],h.mono c⟩
  ·obtain⟨w,h1,h2⟩:=s.sh j e p;exact⟨w,by rw[vB ne];exact h1,h2.mono c⟩
 ·rcases cm q with⟨rfl,p⟩|⟨ne,p⟩
  ·cases p
  ·obtain⟨a,o,h1,h2,h3,h4⟩:=s.ow j e p;exact⟨a,o,by rw[vB ne];exact h1,h2,h3,h4.mono c⟩
 ·rcases cm q with⟨rfl,p⟩|⟨ne,p⟩
  ·cases p
  ·rcases cm U with⟨rfl,G⟩|⟨M,G⟩
   ·cases G
   ·rw[vB ne]at h1;rw[vB M]at h2;exact s.inj j k a e f p G h1 h2
def eB.bindOwn (s:eB K B0 H0 N H σ ρ){i:Nat}{a:Addr}{ob:HO}{dd:D}(hN:N a=some ob)(h0:H0 a=none)(M:∀(j:Nat)(d:D),ρ[j]? = some (some (d,true))->σ[j]? ≠ some (some (V.ref a)))
  (U:∀(j:Nat)(d:D),j≠i->ρ[j]? = some (some (d,false))->∃v,σ[j]? = some (some v)/\Is K (dz N (λb=>own σ ρ b∨b=a)) v d) (Vv:∀(j:Nat)(d:D),j≠i->ρ[j]? = some (some (d,true))->∃(O:Addr)(o:HO),σ[j]? = some (some (V.ref O))/\N O=some o/\Bx K (dz N (λb=>own σ ρ b∨b=a)) o d)
  (Ri:Bx K (dz N (λb=>own σ ρ b∨b=a)) ob dd):eB K B0 H0 N H (σ.set i (some (.ref a))) (ρ.set i (some (dd,true))):=by
 have o:∀b,own (σ.set i (some (V.ref a))) (ρ.set i (some (dd,true))) b->own σ ρ b∨b=a:=λb q=>by
  rcases uC q with⟨p,_⟩|⟨j,_,d',q1,q2⟩
  ·cases p;exact .inr rfl
  ·exact .inl ⟨j,d',q1,q2⟩
 have c:bc (dz N (λb=>own σ ρ b∨b=a)) (dz N (own (σ.set i (some (V.ref a))) (ρ.set i (some (dd,true))))):=dL λb u e q=>⟨e,λz=>q (o b z)⟩;refine⟨s.bh,s.tb,s.ext,by simp[s.len],λj e q=>?_,λj e q=>?_,λj k b e f q q' h1 h2=>?_⟩
 ·rcases cm q with⟨rfl,p⟩|⟨ne,p⟩
  ·cases p
  ·obtain⟨w,h1,h2⟩:=U j e (Ne.symm ne) p;exact⟨w,by rw[vB ne];exact h1,h2.mono c⟩
 ·rcases cm q with⟨rfl,p⟩|⟨ne,p⟩
  ·cases p
   have hi:=sR q s.len;exact⟨a,ob,by simp[hi],hN,h0,Ri.mono c⟩
  ·obtain⟨O,o',h1,h2,h4⟩:=Vv j e (Ne.symm ne) p;have h3:H0 O=none:=by
    obtain⟨a2,_,k1,_,k3,_⟩:=s.ow j e p;rw[h1]at k1;cases k1;exact k3
   exact⟨O,o',by rw[vB ne];exact h1,h2,h3,h4.mono c⟩
 ·rcases cm q with⟨rfl,p⟩|⟨ne,p⟩
  ·rcases cm q' with⟨rfl,T⟩|⟨G,T⟩
   ·rfl
   ·rw[vB G]at h2;have Vw:V.ref a=V.ref b:=by
     rcases cm h1 with⟨_,z⟩|⟨z,_⟩
     ·exact vK z
     ·exact absurd rfl z
    cases Vw
    exact absurd h2 (M k f T)
  ·rcases cm q' with⟨rfl,T⟩|⟨G,T⟩
   ·rw[vB ne]at h1;have PF:V.ref a=V.ref b:=by
     rcases cm h2 with⟨_,z⟩|⟨z,_⟩
     ·exact vK z
     ·exact absurd rfl z
    cases PF
    exact absurd h1 (M j e p)
   ·rw[vB ne]at h1;rw[vB G]at h2;exact s.inj j k b e f p T h1 h2
end
inductive Res where
 |nx (ρ:Env)|rt (d:D) (b:Bool)|bk (ρ:Env)|ct (ρ:Env)
abbrev FS:=Env->Option Res
def NQ (K:Frag)(B0 H0:Hp)(E:Ends):Res->Prop
 |.nx ρ=>∀σ H,uB K B0 H0 H σ ρ->E.nx σ H
 |.rt d b=>∀v H N,Ext B0 N H0 H->Is K N v d->(b=true->MD K H0 N v d)->E.rt v H
 |.bk ρ=>∀σ H,uB K B0 H0 H σ ρ->E.bk σ H
 |.ct ρ=>∀σ H,uB K B0 H0 H σ ρ->E.ct σ H
def lV (K:Frag)(g:FS):TS:=λE σ H=>∃(B0 H0:Hp)(ρ:Env)(r:Res),uB K B0 H0 H σ ρ/\g ρ=some r/\NQ K B0 H0 E r
section
variable {K:Frag}{B0 H0 N H H':Hp}{σ:St}{ρ:Env}{E:Ends}
def eB.writeB (s:eB K B0 H0 N H σ ρ)(hi:ρ[i]? = some (some (d,true)))(G:σ[i]? = some (some (V.ref a)))(h:Bx K (dz N (own σ ρ)) ob dd):
  eB K B0 H0 (upd N a ob) (upd H a ob) σ (ρ.set i (some (dd,true))):=by
 have U:own σ ρ a:=⟨i,d,hi,G⟩;obtain⟨ws,hw,h0⟩:=s.owned U;have b0:B0 a=none:=s.bh.free h0;have o:∀b,own σ (ρ.set i (some (dd,true))) b↔own σ ρ b:=λb=>by
  constructor
  ·rintro⟨j,e,O,M⟩;rcases cm O with⟨rfl,p⟩|⟨_,p⟩
   ·exact⟨i,d,hi,M⟩
   ·exact⟨j,e,p,M⟩
  ·rintro⟨j,e,O,M⟩;by_cases z:i=j
   ·subst z;exact⟨i,dd,by rw[List.getElem?_set_self (vV hi).1],M⟩
   ·exact⟨j,e,by rw[vB z];exact O,M⟩
 have c:bc (dz N (own σ ρ)) (dz (upd N a ob) (own σ (ρ.set i (some (dd,true))))):=dL λb u e q=>by
  have ne:b≠a:=λz=>q (z ▸ U);exact⟨by rw[aI ne];exact e,λz=>q ((o b).mp z)⟩
 refine⟨s.bh,s.tb,⟨λb u e=>?_,λb u e=>?_,λb u e=>?_,λb u e=>?_⟩,by rw[length_set];exact s.len,λj e q=>?_,λj e q=>?_,λj k b e f q q' h1 h2=>?_⟩
 ·rw[aI (λz=>by subst z;rw[h0]at e;cases e)];exact s.ext.hh _ _ e
 ·rw[aI (λz=>by subst z;rw[b0]at e;cases e)];exact s.ext.bn _ _ e
 ·by_cases z:b=a
  ·subst z;rw[aC]at e ⊢;exact e
  ·rw[aI z]at e ⊢;exact s.ext.nh _ _ e
 ·by_cases z:b=a
  ·subst z;exact .inr h0
  ·rw[aI z]at e;exact s.ext.new _ _ e
 ·rcases cm q with⟨rfl,p⟩|⟨ne,p⟩
  ·cases p
  ·obtain⟨v,h1,h2⟩:=s.sh j e p;exact⟨v,h1,h2.mono c⟩
 ·rcases cm q with⟨rfl,p⟩|⟨ne,p⟩
  ·cases p
   exact⟨a,ob,G,aC,h0,h.mono c⟩
  ·obtain⟨a',o',h1,h2,h3,h4⟩:=s.ow j e p;have na:a'≠a:=λz=>by subst z;exact ne (s.inj i j _ d e hi p G h1)
   exact⟨a',o',h1,by rw[aI na];exact h2,h3,h4.mono c⟩
 ·have get:∀ {j:Nat}{e:D},(ρ.set i (some (dd,true)))[j]? = some (some (e,true))->∃T,ρ[j]? = some (some (T,true)):=λ{j e} q=>by
   rcases cm q with⟨rfl,p⟩|⟨ne,p⟩
   ·exact⟨d,hi⟩
   ·exact⟨e,p⟩
  obtain⟨T,O⟩:=get q;obtain⟨f',M⟩:=get q';exact s.inj j k b T f' O M h1 h2
def eB.write (s:eB K B0 H0 N H σ ρ)(hi:ρ[i]? = some (some (d,true)))(G:σ[i]? = some (some (V.ref a)))(h:IsL K (dz N (own σ ρ)) vs ds):
  eB K B0 H0 (upd N a (.lst vs)) (upd H a (.lst vs)) σ (ρ.set i (some (.lst ds,true))):=s.writeB hi G (.lst h)
def eB.tups (s:eB K B0 H0 N H σ ρ):∀a vs,iY K N a vs->iY K (dz N (own σ ρ)) a vs:=λa vs h=>by
 have G:∀u,N a=some u->¬boxed u->dz N (own σ ρ) a=some u:=λu e hu=>by
  rw[cX λz=>?_];exact e;obtain⟨O,⟨q,M⟩,_⟩:=s.owned z;rw[e]at q;cases q;exact hu M
 rcases h with (h|⟨o,h⟩)|h
 ·exact .inl (.inl (G _ h (λq=>q)))
 ·exact .inl (.inr ⟨o,G _ h (λq=>q)⟩)
 ·exact .inr h
def eB.flat (s:eB K B0 H0 N H σ ρ)(h:Is K N v d)(n:bx d=true):Is K (dz N (own σ ρ)) v d:=h.keepT s.tups n
def eB.rebase (s:eB K B0 H0 N H σ ρ):eB K (dz N (own σ ρ)) (dz H (own σ ρ)) N H σ ρ :=
 ⟨dL λa o e q=>⟨s.ext.nh _ _ e,q⟩,s.tbC,⟨bJ,bJ,s.ext.nh,λa o e=>by
  by_cases q:own σ ρ a
  ·exact .inr (zD q)
  ·exact .inl (by rw[cX q];exact e)⟩,s.len,s.sh,λi d q=>by
   obtain⟨a,o,h1,h2,_,h4⟩:=s.ow i d q;exact⟨a,o,h1,h2,zD ⟨i,d,q,h1⟩,h4⟩,s.inj⟩
def eB.unbase (s:eB K B0 H0 N H σ ρ)(t:eB K (dz N (own σ ρ)) (dz H (own σ ρ)) N' H' σ' ρ'):eB K B0 H0 N' H' σ' ρ':=by
 have h0:bc H0 (dz H (own σ ρ)):=λa o e=>by
  rw[cX λz=>?_];exact s.ext.hh _ _ e;obtain⟨_,_,q⟩:=s.owned z;rw[q]at e;cases e
 have G:bc B0 (dz N (own σ ρ)):=λa o e=>by
  rw[cX λz=>?_];exact s.ext.bn _ _ e;obtain⟨_,_,q⟩:=s.owned z;rw[s.bh _ _ e]at q;cases q
 refine⟨s.bh,s.tb,⟨h0.trans t.ext.hh,G.trans t.ext.bn,t.ext.nh,λa o e=>?_⟩,t.len,t.sh,λi d q=>?_,t.inj⟩
 ·rcases t.ext.new a o e with z|z
  ·exact s.ext.new a o (bJ _ _ z)
  ·exact .inr (h0.free z)
 ·obtain⟨a,o,h1,h2,h3,h4⟩:=t.ow i d q;exact⟨a,o,h1,h2,h0.free h3,h4⟩
def eB.based (t:eB K B0 H0 N H σ ρ):bc B0 (dz N (own σ ρ)):=λa o e=>by
 rw[cX λz=>?_];exact t.ext.bn _ _ e;obtain⟨_,_,q⟩:=t.owned z;rw[t.bh _ _ e]at q;cases q
@[simp] noncomputable def ay (g h:FS):FS:=λρ=>match g ρ with|some (.nx ρ')=>h ρ'|r=>r
@[simp] noncomputable def bg:FS:=λρ=>some (.nx ρ)
@[simp] noncomputable def dI (c:FT)(g h:FS):FS:=λρ=>match c ρ with|some true=>g ρ|some false=>h ρ|none=>none
@[simp] noncomputable def aQ (f:FE):FS:=λρ=>(f ρ).map λx=>.rt x.1 x.2
@[simp] noncomputable def JD:D->Bool
 |.dk _ _=>true
 |.dt _ _=>true
 |_=>false
@[simp] def je (i:Nat):FS:=λρ=>match ρ[i]? with|some (some (d,b))=>some (.rt d (b && !JD d))|_=>none
@[simp] def xg:D->Bool
 |.lst ds=>bH ds
 |_=>false
@[simp] def setE (ρ:Env)(i:Nat)(d:D)(b:Bool):Env :=
 if bx d=true then ρ.set i (some (d,false))else if b=true/\xg d=true then ρ.set i (some (d,true))else (unown ρ).set i (some (d,false))
@[simp] def aK (i:Nat)(f:FE):FS:=λρ=>(f ρ).map λx=>.nx (setE ρ i x.1 x.2)
@[simp] def xh (i:Nat)(f:FE):FS:=λρ=>(f (fE ρ)).map λx=>.nx (ρ.set i (some (x.1,false)))
@[simp] def i6 (i:Nat)(f:FE):FS:=λρ=>match ρ[i]? with
 |some (some (.lst ds,true))=>(f ρ).bind λx=>if bx x.1=true/\ds.length<sizeLine then some (.nx (ρ.set i (some (.lst (ds++[x.1]),true))))else none
 |_=>none
def Hb (q:lV K (ay g h) E σ H):Nj (lV K g) (lV K h) E σ H:=by
 obtain⟨B0,H0,ρ,r,s,e,p⟩:=q;unfold ay at e;cases G:g ρ with
 |none=>rw[G]at e;cases e
 |some M=>
  rw[G]at e;cases M with
  |nx ρ'=>exact⟨B0,H0,ρ,.nx ρ',s,G,λO H' s'=>⟨B0,H0,ρ',r,s',e,p⟩⟩
  |rt d b=>cases e;exact⟨B0,H0,ρ,_,s,G,p⟩
  |bk ρ'=>cases e;exact⟨B0,H0,ρ,_,s,G,p⟩
  |ct ρ'=>cases e;exact⟨B0,H0,ρ,_,s,G,p⟩
def Eb (q:lV K bg E σ H):Jw E σ H:=by
 obtain⟨B0,H0,ρ,r,s,e,p⟩:=q;cases e
 exact p σ H s
def uB.grown (s:eB K B0 H0 N H σ ρ)(h:bc H H'):uB K B0 H0 H' σ ρ:=⟨N,s.grow (.grow s.ext.nh h)⟩
def Lp (q:lV K (dI c g h) E σ H):Nm (AB K c) (lV K g) (lV K h) E σ H:=by
 obtain⟨B0,H0,ρ,r,⟨N,s⟩,e,p⟩:=q;unfold dI at e;cases G:c ρ with
 |none=>rw[G]at e;cases e
 |some b=>
  rw[G]at e;refine⟨N,ρ,b,s.ext.nh,s.rep,G,λM h1=>?_⟩;cases b with
  |true=>rw[if_pos rfl];exact⟨B0,H0,ρ,r,.grown s h1,e,p⟩
  |false=>rw[if_neg (by decide)];exact⟨B0,H0,ρ,r,.grown s h1,e,p⟩
def Hd (q:lV K (aQ f) E σ H):K9 (tD K f) E σ H:=by
 obtain⟨B0,H0,ρ,r,⟨N,s⟩,e,p⟩:=q;obtain⟨x,ex,e⟩:=oY e;subst e;exact⟨N,ρ,x.1,x.2,s.ext.nh,s.rep,ex,λv G N1 M O f1=>p v G N1 (s.ext.trans M) O λb=>(f1 b).back s.ext.hh⟩
def Ec (q:lV K (je i) E σ H):K9 (oB i) E σ H:=by
 obtain⟨B0,H0,ρ,r,⟨N,s⟩,e,p⟩:=q;unfold je at e;split at e
 ·rename_i d b ei;cases e
  cases b with
  |false=>
   obtain⟨v,h1,h2⟩:=s.sh i d ei;exact⟨v,h1,p v H N s.ext (h2.mono bJ) (by simp)⟩
  |true=>
   obtain⟨a,o,h1,h2,h3,h4⟩:=s.ow i d ei;cases h4 with
   |lst h4=>exact⟨_,h1,p _ H N s.ext (.lst (fT.of h2) (h4.mono bJ)) λ_=>⟨a,_,_,rfl,rfl,h3,h2,h4.mono bJ⟩⟩
   |dk hl h4=>exact⟨_,h1,p _ H N s.ext (.dk h2 hl (h4.mono bJ)) (by simp)⟩
   |dt hl h4=>exact⟨_,h1,p _ H N s.ext (.dt h2 hl (h4.mono bJ)) (by simp)⟩
 ·cases e
def eB.setE (s:eB K B0 H0 N H σ ρ)(x:Ext N N1 H H1)(h:Is K N1 v d)(f:b=true->MD K H N1 v d):eB K B0 H0 N1 H1 (σ.set i (some v)) (setE ρ i d b):=by
 have s1:=s.grow x;unfold DL.setE;by_cases hn:bx d=true
 ·rw[if_pos hn];exact s1.bind (s1.flat h hn)
 ·rw[if_neg hn];by_cases hb:b=true/\xg d=true
  ·rw[if_pos hb];obtain⟨a,vs,ds,rfl,rfl,ha,O,hs⟩:=f hb.1;have G:N a=none:=s.ext.nh.free ha;have T:¬own σ ρ a:=λz=>by obtain⟨U,⟨q,_⟩,_⟩:=s.owned z;rw[G]at q;cases q
   have c:bc (dz N (own σ ρ)) (dz N1 (λb=>own σ ρ b∨b=a)):=dL λb u e q=>⟨x.bn _ _ e,λz=>z.elim q λz=>by subst z;rw[G]at e;cases e⟩;refine s1.bindOwn O (s.ext.hh.free ha) (λj e q z=>T ⟨j,e,q,z⟩) (λj e _ q=>?_) (λj e _ q=>?_) (.lst (hs.keepT (λt ts st=>?_) hb.2))
   ·obtain⟨w,h1,h2⟩:=s.sh j e q;exact⟨w,h1,h2.mono c⟩
   ·obtain⟨a',o',h1,h2,_,h4⟩:=s.ow j e q;exact⟨a',o',h1,x.bn _ _ h2,h4.mono c⟩
   ·have M:∀u,N1 t=some u->¬boxed u->dz N1 (λb=>own σ ρ b∨b=a) t=some u:=λu e hu=>by
     rw[cX λz=>?_];exact e;rcases z with z|z
     ·obtain⟨U,⟨q,qb⟩,_⟩:=s1.owned z;rw[e]at q;cases q;exact hu qb
     ·subst z;rw[e]at O;cases O;exact hu trivial
    rcases st with (st|⟨o,st⟩)|st
    ·exact .inl (.inl (M _ st (λq=>q)))
    ·exact .inl (.inr ⟨o,M _ st (λq=>q)⟩)
    ·exact .inr st
  ·rw[if_neg hb];exact s1.unown.bind (h.mono λa o e=>by rw[cX sQ];exact e)
def AE (q:lV K (aK i f) E σ H):wS (tD K f) (ja i) E σ H:=by
 obtain⟨B0,H0,ρ,r,⟨N,s⟩,e,p⟩:=q;obtain⟨x,ex,e⟩:=oY e;subst e;exact⟨N,ρ,x.1,x.2,s.ext.nh,s.rep,ex,λv G N1 M O f1=>p _ G ⟨N1,s.setE M O f1⟩⟩
def Ed (q:lV K (xh i f) E σ H):wS (tD K f) (ja i) E σ H:=by
 obtain⟨B0,H0,ρ,r,⟨N,s⟩,e,p⟩:=q;obtain⟨x,ex,e⟩:=oY e;subst e;refine⟨dz N (own σ ρ),fE ρ,x.1,x.2,bJ.trans s.ext.nh,s.repH,ex,λv G N1 M O f1=>?_⟩;obtain⟨s1,c⟩:=s.growH M;exact p _ G ⟨_,s1.bind (O.mono c)⟩
def He (q:lV K (i6 i f) E σ H):∃(a:Addr)(us:LV),σ[i]? = some (some (V.ref a))/\H a=some (.lst us)/\DM (tD K f) KZ σ H λxs H2=>u6 (.ref a) xs H2 λ_ O=>E.nx σ O:=by
 obtain⟨B0,H0,ρ,r,⟨N,s⟩,e,p⟩:=q;unfold i6 at e;split at e
 ·rename_i ds ei;obtain⟨x,ex,e⟩:=oX e;split at e
  ·rename_i hx;cases e
   obtain⟨a,vs,G,z,h1,h2,h3,h4⟩:=s.owL i _ ei;cases z
   refine⟨a,vs,h1,s.ext.nh _ _ h2,N,ρ,x.1,x.2,s.ext.nh,s.rep,ex,λv H1 N1 M T f1=>⟨a,vs,v,rfl,rfl,M.hh _ _ (s.ext.nh _ _ h2),by rw[h4.length];exact hx.2,?_⟩⟩;have s1:=s.grow M;obtain⟨a',U,G,z,k1,k2,_,k4⟩:=s1.owL i _ ei;cases z
   rw[h1]at k1;cases k1;rw[M.bn _ _ h2]at k2;cases k2;exact p σ _ ⟨_,s1.write ei h1 (k4.append (.cons (s1.flat T hx.1) .nil))⟩
  ·cases e
 ·cases e
end
noncomputable def fY (c:FT)(g:FS):Nat->Env->Option Res
 |0,_=>none
 |n+1,ρ=>match c ρ with
  |some true=>match g ρ with
   |some (.nx ρ')=>fY c g n ρ'
   |some (.ct ρ')=>fY c g n ρ'
   |some (.bk ρ')=>some (.nx ρ')
   |r=>r
  |some false=>some (.nx ρ)
  |none=>none
def C0 (q:lV K (fY c g n) E σ H):DD (AB K c) (lV K g) E σ H:=by
 obtain⟨B0,H0,ρ,r,s,e,p⟩:=q;refine⟨λm σ H=>∃ρ,uB K B0 H0 H σ ρ/\fY c g m ρ=some r,⟨n,ρ,s,e⟩,?_⟩;rintro m σ H ⟨ρ,⟨N,s⟩,e⟩;cases m with
 |zero=>cases e
 |succ m=>
  unfold fY at e;cases M:c ρ with
  |none=>rw[M]at e;cases e
  |some b=>
   rw[M]at e;refine⟨N,ρ,b,s.ext.nh,s.rep,M,λU h1=>?_⟩;cases b with
   |false=>rw[if_neg (by decide)];cases e;exact p σ U (.grown s h1)
   |true=>
    rw[if_pos rfl];refine⟨λσ H=>∃ρ,uB K B0 H0 H σ ρ/\fY c g m ρ=some r,λG H' w=>⟨m,lt_succ_self m,w⟩,?_⟩;cases O:g ρ with
    |none=>rw[O]at e;cases e
    |some T=>
     rw[O]at e;refine⟨B0,H0,ρ,T,.grown s h1,O,?_⟩;cases T with
     |nx ρ'=>exact λG H' s'=>⟨ρ',s',e⟩
     |ct ρ'=>exact λG H' s'=>⟨ρ',s',e⟩
     |bk ρ'=>cases e;exact λG H' s'=>p G H' s'
     |rt d b=>cases e;exact p
def nj (K:Frag)(J:It)(B:Hp)(ds:LD):Prop:=∀(i:Nat)(H:Hp),bc B H ->
 (∀d,ds[i]? = some d->J.go i H/\∀x H',J.yld i H x H'->∃N,Ext B N H H'/\Is K N x d)/\(ds.length<=i->J.stop i H)
def S6 (K:Frag)(f:FA):TI:=λσ H R=>∃(B:Hp)(ρ:Env)(ds:LD),bc B H/\fR K B σ ρ/\f ρ=some ds/\∀(J:It)(H' N:Hp),Ext B N H H'->nj K J N ds->R J H'
abbrev FG:=D->Env->Option Env
def Hf (K:Frag)(tg:FG)(g:TG):Prop:=∀(B0 H0 N H:Hp)(σ:St)(ρ ρ':Env)(v:V)(d:D)(Q:St->Hp->Prop),eB K B0 H0 N H σ ρ->Is K (dz N (own σ ρ)) v d->tg d ρ=some ρ' ->
 (∀G H',uB K B0 H0 H' G ρ'->Q G H')->g v σ H Q
@[simp] noncomputable def cC (i:Nat):FG:=λd ρ=>some (ρ.set i (some (d,false)))
def cL:Hf K (cC i) (ja i):=by
 intro B0 H0 N H σ ρ ρ' v d Q s h e k;cases e
 exact k _ H ⟨N,s.bind h⟩
noncomputable def gw (tg:FG)(g:FS):LD->Env->Option Res
 |[],ρ=>some (.nx ρ)
 |d::ds,ρ=>(tg d ρ).bind λG=>match g G with
  |some (.nx ρ')=>gw tg g ds ρ'
  |some (.ct ρ')=>gw tg g ds ρ'
  |some (.bk ρ')=>some (.nx ρ')
  |r=>r
@[simp] def xi (tg:FG)(g:FS)(ρ:Env):gw tg g [] ρ=some (.nx ρ):=by rw[gw]
@[simp] theorem kL (tg:FG)(g:FS)(d:D)(ds:LD)(ρ:Env):gw tg g (d::ds) ρ=(tg d ρ).bind λG=>match g G with
  |some (.nx ρ')=>gw tg g ds ρ'
  |some (.ct ρ')=>gw tg g ds ρ'
  |some (.bk ρ')=>some (.nx ρ')
  |r=>r:=by rw[gw]
@[simp] def jz (f:FA)(tg:FG)(g:FS):FS:=λρ=>(f (fE ρ)).bind λds=>gw tg g ds ρ
def xj (ht:Hf K tg t)(s1:eB K B0 H0 N H1 σ ρ)(c:bc N1 (dz N (own σ ρ)))(J1:nj K J N1 ds)(e:gw tg g ds ρ=some r)(p:NQ K B0 H0 E r):
  ∃W:Nat->Nat->St->Hp->Prop,(∃m,W 0 m σ H1)/\∀i m σ H,W i m σ H->(J.stop i H/\E.nx σ H)∨(J.go i H/\∃N:St->Hp->Prop,(∀G H',N G H'->∃m',m'<m/\W (i+1) m' G H')/\∀x H',J.yld i H x H'->t x σ H' λT H2=>lV K g { E with nx:=N,ct:=N,bk:=E.nx } T H2):=by
 refine⟨λi m σ H=>∃(N:Hp)(ρ:Env),eB K B0 H0 N H σ ρ/\bc N1 (dz N (own σ ρ))/\m=ds.length - i/\i<=ds.length/\gw tg g (ds.drop i) ρ=some r,⟨ds.length,_,ρ,s1,c,rfl,uN _,e⟩,?_⟩;clear e s1 c;rintro i m σ H ⟨N,ρ,s,c,rfl,hi,e⟩;have hs:bc N1 H:=c.trans (bJ.trans s.ext.nh);obtain⟨j1,j2⟩:=J1 i H hs;by_cases M:i<ds.length
 ·obtain⟨go,yl⟩:=j1 ds[i] (by simp[M]);rw[List.drop_eq_getElem_cons M]at e;obtain⟨U,e1,e⟩:=oX e;refine .inr ⟨go,λG H'=>∃(N:Hp)(ρ:Env),eB K B0 H0 N H' G ρ/\bc N1 (dz N (own G ρ))/\gw tg g (ds.drop (i+1)) ρ=some r,λG H' ⟨N',ρ',s',c',e'⟩=>⟨_,by omega,N',ρ',s',c',rfl,M,e'⟩,λx H' y=>?_⟩;obtain⟨N2,O,i2⟩:=yl x H' y;have x3:Ext (dz N (own σ ρ)) (join (dz N (own σ ρ)) N2) H H':=by
   refine⟨O.hh,eM,λa o e=>?_,λa o e=>?_⟩
   ·cases q:dz N (own σ ρ) a with
    |some u=>rw[eM _ _ q]at e;cases e;exact O.hh _ _ (s.ext.nh _ _ (bJ _ _ q))
    |none=>rw[eE q]at e;exact O.nh _ _ e
   ·cases q:dz N (own σ ρ) a with
    |some u=>rw[eM _ _ q]at e;cases e;exact .inl rfl
    |none=>
     rw[eE q]at e;rcases O.new a o e with z|z
     ·rw[c _ _ z]at q;cases q
     ·exact .inr z
  obtain⟨s2,c2⟩:=s.growH x3;have c3:bc N2 (join (dz N (own σ ρ)) N2):=λa o e=>by
   rcases O.new a o e with z|z
   ·exact eM _ _ (c _ _ z)
   ·rw[eE ((bJ.trans s.ext.nh).free z)];exact e
  have i3:=i2.mono (c3.trans c2);have c4:bc N1 (dz (join N (join (dz N (own σ ρ)) N2)) (own σ ρ)):=(O.bn.trans c3).trans c2;refine ht _ _ _ _ _ _ _ _ _ _ s2.rebase i3 e1 λT H2 ⟨N4,s4⟩=>?_;cases eg:g U with
  |none=>rw[eg]at e;cases e
  |some r1=>
   rw[eg]at e;refine⟨_,_,U,r1,⟨N4,s4⟩,eg,?_⟩;have back:∀ {G:St}{H':Hp}{ρ':Env}{N':Hp},eB K _ _ N' H' G ρ'->eB K B0 H0 N' H' G ρ'/\bc N1 (dz N' (own G ρ')):=λt=>⟨s2.unbase t,c4.trans t.based⟩;cases r1 with
   |nx ρ'=>exact λG H' ⟨N',t⟩=>⟨N',ρ',(back t).1,(back t).2,e⟩
   |ct ρ'=>exact λG H' ⟨N',t⟩=>⟨N',ρ',(back t).1,(back t).2,e⟩
   |bk ρ'=>cases e;exact λG H' ⟨N',t⟩=>p G H' ⟨N',(back t).1⟩
   |rt d b=>
    cases e
    intro v H' N' x' i' f';have y:=s2.rebase.ext;have h0:bc H0 (dz H' (λ_=>False)):=λa o e=>by rw[cX (λz=>z)];exact x'.hh _ _ (by
     rw[cX λz=>?_];exact s2.ext.hh _ _ e;obtain⟨_,_,q⟩:=s2.owned z;rw[q]at e;cases e)
    have XI:bc H0 (dz H' (λ_=>False)):=h0;have hH:bc H0 (dz H' (λ_=>False)):=h0;have hc:∀a,dz H' (λ_=>False) a=H' a:=λa=>cX (λz=>z);have hb:bc H0 (dz _ (own σ ρ)):=λa o e=>by
     rw[cX λz=>?_];exact s2.ext.hh _ _ e;obtain⟨_,_,q⟩:=s2.owned z;rw[q]at e;cases e
    have bb:bc B0 (dz _ (own σ ρ)):=λa o e=>by
     rw[cX λz=>?_];exact s2.ext.bn _ _ e;obtain⟨_,_,q⟩:=s2.owned z;rw[s2.bh _ _ e]at q;cases q
    refine p v H' N' ⟨hb.trans x'.hh,bb.trans x'.bn,x'.nh,λa o e=>?_⟩ i' λz=>(f' z).back hb;rcases x'.new a o e with z|z
    ·exact s2.ext.new a o (bJ _ _ z)
    ·exact .inr (hb.free z)
 ·have ei:i=ds.length:=by omega
  subst ei;rw[List.drop_eq_nil_of_le (vT _)]at e;cases e
  exact .inl ⟨j2 (vT _),p σ H ⟨N,s⟩⟩
def Hg (G:Hf K tg t)(q:lV K (jz f tg g) E σ H):KN (S6 K f) t (lV K g) E σ H:=by
 obtain⟨B0,H0,ρ,r,⟨N,s⟩,e,p⟩:=q;obtain⟨ds,M,e⟩:=oX e;refine⟨dz N (own σ ρ),fE ρ,ds,bJ.trans s.ext.nh,s.repH,M,λJ U N1 O T=>?_⟩;obtain⟨s1,c⟩:=s.growH O;exact xj G s1 c T e p
def NR (K:Frag)(f:FA):TI:=λσ H R=>∃(B:Hp)(ρ:Env)(ds:LD),bc B H/\fR K B σ ρ/\f ρ=some ds/\∀(J:It)(H' N:Hp),Ext B N H H'->(∀G,nj K J G ds)->R J H'
@[simp] def jK (f:FA)(tg:FG)(g:FS):FS:=λρ=>(f ρ).bind λds=>gw tg g ds ρ
def Ee (G:Hf K tg t)(q:lV K (jK f tg g) E σ H):KN (NR K f) t (lV K g) E σ H:=by
 obtain⟨B0,H0,ρ,r,⟨N,s⟩,e,p⟩:=q;obtain⟨ds,M,e⟩:=oX e;refine⟨N,ρ,ds,s.ext.nh,s.rep,M,λJ U N1 O T=>?_⟩;exact xj G (s.grow O) (bc.refl _) (T _) e p
end DL
namespace DL
open PySem PySem.Spec PyProof.Rows L2
abbrev JE (X:Cx)(e:Expr)(f:FE):Prop:=PE X e (tD X.K f)
abbrev JT (X:Cx)(e:Expr)(f:FT):Prop:=PT X e (AB X.K f)
abbrev JW (X:Cx)(e:Expr)(f:FT):Prop:=PW X e (AB X.K f)
abbrev JA (X:Cx)(es:QD)(f:FA):Prop:=PA X es (Ln X.K f)
abbrev JS (X:Cx)(st:Stmt)(g:FS):Prop:=PS X st (lV X.K g)
abbrev uE (X:Cx)(st:List Stmt)(g:FS):Prop:=sy X st (lV X.K g)
abbrev JI (X:Cx)(tg G:Expr)(f:FA):Prop:=PI X tg G (S6 X.K f)
def Lq (M:Model)(A:Around)(O:QD)(T:Expr)(env:PySem.Env)(U:Value)(E:QV)(P:Shared->Prop):Shared->Prop :=
 wpAny M A (forIn O true λc r=>if r=true then do let ok ←isTrue c env (eval c env);pure (ForInStep.yield ok)else pure (ForInStep.yield r))
  (λok G=>if ok=true then wpAny M A (eval T env) (λx=>wpAny M A (call (.builtin "list.append") [U,x]) (λ_=>P) E) E G else P G) E
def uF {E:QV}(hE:∀x s,¬E x s)(I:Nat->Shared->Prop)
  (T:∀n s,I n s->wpAny (model prog w) A (pyNext it) (λr G=>match r with
   |none=>R (.ok .next) G
   |some v=>wpAny (model prog w) A (letOwnedTupleGo A0 it v) (λ_=>wpAny (model prog w) A (assign A0 env v) (λ_=>Lq (model prog w) A A1 wK env Cc E λs=>∃m,m<n/\I m s) E) E G) E s)
  (n:Nat) (h:I n s):codeAny (model prog w) A (.compLoop (.ListComp wK [⟨A0,gp,A1,0⟩] scope pos) 0 it Cc env) R s:=by
 refine codeAny_loop rfl I (λn s hI=>?_) n h;show wpAny _ A ((compTurn (.ListComp wK [⟨A0,gp,A1,0⟩] scope pos) 0 it Cc env).onRaise (λx=>do noteFrame x env;theTreesLotGoes x)) _ _ s;refine wpAny_noted (wpAny_mono (E:=E) ?_ (λ_ _ q=>q) λ_ _ z=>(hE _ _ z).elim);rw[compTurn_list];refine wX (wpAny_standAt (wX (cn (T n s hI) λr G M=>?_)));cases r with
 |none=>exact wY M
 |some v=>
  refine wX (cn M λ_ G M=>wX (cn M λ_ s₂ U=>wX (cn U λok s₃ O=>?_)));cases ok with
  |false=>exact wY ⟨rfl,O⟩
  |true=>exact wX (wX (cn O λx s₄ h₄=>wX (cn h₄ λ_ s₅ h₅=>wY (wY ⟨rfl,h₅⟩))))
def Ext.upd (x:Ext B N H H')(h:H a=none)(G:N a=none):Ext B N H (upd H' a o) :=
 ⟨λb u e=>by rw[aI (λz=>by subst z;rw[h]at e;cases e)];exact x.hh _ _ e,x.bn,λb u e=>by rw[aI (λz=>by subst z;rw[G]at e;cases e)];exact x.nh _ _ e,x.new⟩
noncomputable abbrev iM (X:Cx)(N':LS)(scope:Scope)(cl:List (Str×Addr))(C:Addr)(G:Shared)(M:Hp)(fp:List Addr):Cx :=
 { X with N:=N',s₀:=G,H₀:=M,env:=compEnvC scope cl C X.env,outer:=X.stack,stack:=X.stack,ex:=fp,fn:=λ_=>false,pn:=[],xe:=λ_ _=>False }
inductive mT (X:Cx)(N':List Str)(scope:Scope)(cl:List (Str×Addr)):Nat->List Nat->Prop where
 |nil {j:Nat}(h:N'.length=j):mT X N' scope cl j []
 |cons {j i:Nat}{r:List Nat}{x:Str}(h1:N'[j]? = some x) (h2:X.N[i]? = some x) (h3:X.env.kindOf x=some .cell∨X.env.kindOf x=some .free)
   (h4:(relabel scope X.env).names.lookup x=some .cell∨(relabel scope X.env).names.lookup x=some .free) (h5:cl.lookup x=X.env.cells.lookup x) (t:mT X N' scope cl (j+1) r):mT X N' scope cl j (i::r)
theorem mT.len:∀ {j:Nat}{cap:LN},mT X N' scope cl j cap->N'.length=j+cap.length
 |_,_,.nil h=>by rw[h];rfl
 |j,i::r,.cons _ _ _ _ _ t=>by rw[t.len,vE];omega
theorem mT.get:∀ {j:Nat}{cap:LN}{k i:Nat},mT X N' scope cl j cap->cap[k]? = some i->∃x,N'[j+k]? = some x/\X.N[i]? = some x/\(X.env.kindOf x=some .cell∨X.env.kindOf x=some .free) /\
  ((relabel scope X.env).names.lookup x=some .cell∨(relabel scope X.env).names.lookup x=some .free)/\cl.lookup x=X.env.cells.lookup x
 |_,_,_,_,.nil _,e=>by simp at e
 |j,_,0,_,.cons h1 h2 h3 h4 h5 _,e=>by simp at e;subst e;exact⟨_,h1,h2,h3,h4,h5⟩
 |j,_,k+1,i,.cons _ _ _ _ _ t,e=>by
  obtain⟨x,q,r⟩:=t.get (k:=k) (i:=i) (by simpa using e);exact⟨x,by rw[show j+(k+1)=j+1+k by omega];exact q,r⟩
structure CompSc (X:Cx)(scope:Scope)(cl:List (Str×Addr)):Prop where
 clos:closureFor scope X.env=pure cl
 nocell:∀y∈scope.names,y.2≠.cell
 kind:scope.kind=.function
 names:∀y∈scope.names,y.2=.local->scope.names.lookup y.1=some .local
 sub:∀x c,cl.lookup x=some c->X.env.cells.lookup x=some c
 has:∀x,((relabel scope X.env).names.lookup x=some .cell∨(relabel scope X.env).names.lookup x=some .free)->∃c,cl.lookup x=some c
noncomputable def dM:List (Str×NameKind)->List (Str×Addr)->List (Str×Addr)->List (Str×Addr)
 |[],_,cs=>cs
 | (n,k)::r,cells,cs=>dM r cells (if k == .free then (match cells.lookup n with|some c=>(n,c)::cs|none=>cs)else cs)
def sU:∀(names:List (Str×NameKind))(cs:List (Str×Addr)),(∀y∈names,y.2=.free->(env.cells.lookup y.1).isSome=true) ->
    (do let mut cs:=cs
        for (name,kind)in names do
          if kind == .free then cs:=(name,←cellOf env name)::cs
        return cs:Sem (List (Str×Addr)))=pure (dM names env.cells cs):=by
  intro names;induction names with
  |nil=>intro cs _;rfl
  |cons y r O=>
    intro cs h;obtain⟨n,k⟩:=y;have G:=λcs=>O cs λy hy=>h y (mZ _ hy);by_cases hk:k=.free
    . subst hk;have hc:=h (n,.free) mX rfl;cases q:env.cells.lookup n with
      |none=>rw[q]at hc;cases hc
      |some c=>
        have M:dM ((n,.free)::r) env.cells cs=dM r env.cells ((n,c)::cs):=by
          rw[dM,q];rfl
        rw[M,←G ((n,c)::cs)];have e2:cellOf env n=pure c:=by unfold cellOf;rw[q]
        simp only[List.forIn_cons,beq_self_eq_true,if_true,e2];rfl
    . have hb:(k == NameKind.free)=false:=by simpa using hk
      have M:dM ((n,k)::r) env.cells cs=dM r env.cells cs:=by rw[dM,hb];rfl
      rw[M,←G cs];simp only[List.forIn_cons,hb,uV,if_false];rfl
theorem mf:∀(names:List (Str×NameKind))(cs:List (Str×Addr)),(∀y d,cs.lookup y=some d->cells.lookup y=some d)->(dM names cells cs).lookup x=some c->cells.lookup x=some c
 |[],cs,h,e=>h x c e
 | (n,k)::r,cs,h,e=>by
  rw[dM]at e;refine mf r _ (λy d q=>?_) e;split at q
  ·split at q
   ·rename_i M G;rw[lookup_cons]at q;split at q
    ·rename_i hy;cases q
     rw[eq_of_beq hy];exact G
    ·exact h y d q
   ·exact h y d q
  ·exact h y d q
theorem sV:∀(names:List (Str×NameKind))(cs:List (Str×Addr)),(cs.lookup x).isSome=true->((dM names cells cs).lookup x).isSome=true
 |[],cs,h=>h
 | (n,k)::r,cs,h=>by
  rw[dM];refine sV r _ ?_;split
  ·split
   ·rw[lookup_cons];split
    ·rfl
    ·exact h
   ·exact h
  ·exact h
theorem mh:∀(names:List (Str×NameKind))(cs:List (Str×Addr)),(x,NameKind.free)∈names->(cells.lookup x).isSome=true->((dM names cells cs).lookup x).isSome=true
 | (n,k)::r,cs,hm,hc=>by
  rw[dM];rcases vP hm with e|e
  ·cases e
   refine sV r _ ?_;cases q:cells.lookup x with
   |none=>rw[q]at hc;cases hc
   |some c=>simp
  ·exact mh r _ e hc
theorem fZ {α:Type}{x:Str}{k:α}:∀ {l:List (Str×α)},l.lookup x=some k->(x,k)∈l
 | (n,j)::r,h=>by
  rw[lookup_cons]at h;split at h
  ·rename_i e;cases h
   rw[eq_of_beq e];exact mX
  ·exact mZ _ (fZ h)
def Lr {X:Cx}{scope:Scope}(h1:∀y∈scope.names,y.2≠.cell)(h2:scope.kind=.function)(h3:∀y∈scope.names,y.2=.local->scope.names.lookup y.1=some .local)(G:(scope.names.all λy=>!(y.2 == NameKind.free) || (X.env.cells.lookup y.1).isSome)=true):
  CompSc X scope (dM scope.names X.env.cells []):=by
 have h4:∀y∈scope.names,y.2=.free->(X.env.cells.lookup y.1).isSome=true:=λy hy e=>by
  have:=uR G y hy;rw[e]at this;simpa using this
 have frees:∀x,((relabel scope X.env).names.lookup x=some .cell∨(relabel scope X.env).names.lookup x=some .free)->(x,NameKind.free)∈scope.names:=λx h=>by
  have:∃k,(x,k)∈(relabel scope X.env).names/\(k=.cell∨k=.free):=by
   rcases h with h|h
   ·exact⟨_,fZ h,.inl rfl⟩
   ·exact⟨_,fZ h,.inr rfl⟩
  obtain⟨k,hm,hk⟩:=this;obtain⟨⟨n,j⟩,hj,e⟩:=vO hm;dsimp only at e;split at e
  ·rename_i hc;rw[vC,vC]at hc;cases e
   rw[←eq_of_beq hc.1.1];exact hj
  ·cases e
   rcases hk with rfl|rfl
   ·exact absurd rfl (h1 _ hj)
   ·exact hj
 exact⟨sU scope.names [] h4,h1,h2,h3,λx c e=>mf scope.names [] (λy d q=>by cases q) e,λx h=>by
  have:=mh (x:=x) scope.names [] (frees x h) (h4 _ (frees x h) rfl);exact uU this⟩
def oM {scope:Scope}{cells:List (Str×Addr)}{x:Str}(h:(x,NameKind.free)∈scope.names)(hc:(cells.lookup x).isSome=true):(dM scope.names cells []).lookup x=cells.lookup x:=by
 obtain⟨c,e⟩:=uU (mh (x:=x) scope.names [] h hc);rw[e,mf scope.names [] (λy d q=>by cases q) e]
noncomputable def rY (nT:Nat)(cap:LN)(σ:St):St:=List.replicate nT none++cap.map λi=>(σ[i]?).join
noncomputable def dN (nT:Nat)(cap:LN)(ρ:Env):Env:=List.replicate nT none++cap.map λi=>match ρ[i]? with|some (some (d,_))=>some (d,false)|_=>none
def uG {α:Type}{nT:Nat}{cap:LN}{f:Nat->Option α}{j:Nat}{v:α}(h:(List.replicate nT none++cap.map f)[j]? = some (some v)):∃k i,j=nT+k/\cap[k]? = some i/\f i=some v:=by
 by_cases hj:j<nT
 ·rw[getElem?_append_left (by simpa using hj),getElem?_replicate,if_pos hj]at h;cases h
 ·rw[List.getElem?_append_right (by simpa using Nat.not_lt.mp hj),length_replicate,vA]at h;obtain⟨i,h1,h2⟩:=oY h;exact⟨j - nT,i,by omega,h1,h2⟩
def Hh {α:Type}{nT:Nat}{cap:LN}{f:Nat->Option α}{k i:Nat}{v:α}(h1:cap[k]? = some i)(h2:f i=some v):(List.replicate nT none++cap.map f)[nT+k]? = some (some v):=by
 rw[List.getElem?_append_right (by simp),length_replicate,vA,Nat.add_sub_cancel_left,h1];simp[h2]
def fR.caps {K:Frag}{B:Hp}{σ:St}{ρ:Env}{nT:Nat}{cap:LN}(h:fR K B σ ρ):fR K B (rY nT cap σ) (dN nT cap ρ):=⟨h.tb,λj d b q=>by
 obtain⟨k,i,rfl,h1,h2⟩:=uG q;split at h2
 ·rename_i d' b' e;cases h2
  obtain⟨v,g1,G⟩:=h.at' i _ _ e;exact⟨v,Hh h1 (by rw[g1];rfl),G⟩
 ·cases h2⟩
noncomputable def gJ (tg:FG)(c:FT)(fe:FE)(ρ:Env):LD->Option LD
 |[]=>some []
 |d::r=>(tg d ρ).bind λG=>(c G).bind λb=>if b=true then (fe G).bind λx=>(gJ tg c fe ρ r).map (x.1 :: ·)else gJ tg c fe ρ r
@[simp] def ME (tg:FG)(c:FT)(fe:FE)(ρ:Env):gJ tg c fe ρ []=some []:=by rw[gJ]
@[simp] def zE (tg:FG)(c:FT)(fe:FE)(ρ:Env)(d:D)(r:LD):gJ tg c fe ρ (d::r)=(tg d ρ).bind λG=>(c G).bind λb=>if b=true then (fe G).bind λx=>(gJ tg c fe ρ r).map (x.1 :: ·)else gJ tg c fe ρ r:=by rw[gJ]
@[simp] def bK (fi:FA)(nT:Nat)(cap:LN)(tg:FG)(c:FT)(fe:FE):FE:=λρ=>(fi ρ).bind λitems=>if items.length<=sizeLine then (gJ tg c fe (dN nT cap ρ) items).map λds=>(.lst ds,true)else none
def JF (K:Frag)(n:Nat)(tg:FG)(g:TG):Prop:=∀(B H:Hp)(σ:St)(ρ M:Env)(v:V)(d:D)(Q:St->Hp->Prop),(∀i,i<n->ρ[i]? = some none)->fR K B σ ρ->bc B H->Is K B v d->tg d ρ=some M ->
 ρ.length=σ.length->(∀G,fR K B G M->(∀O,fR K O σ ρ->fR K O G ρ)->ρ.length=G.length->Q G H)->g v σ H Q
def xl {K:Frag}{n i:Nat}(hi:i<n):JF K n (cC i) (ja i):=by
 intro B H σ ρ O v d Q cl rep s h e hl k;cases e
 have M:i<σ.length:=by
  have:=(vV (cl i hi)).1;omega
 refine k _ ⟨rep.tb,λj e b q=>?_⟩ ?_ (by simpa using hl)
 ·rcases cm q with⟨rfl,p⟩|⟨ne,p⟩
  ·cases p
   exact⟨v,by simp[M],h⟩
  ·obtain⟨w,h1,h2⟩:=rep.at' j e b p;exact⟨w,by rw[vB ne];exact h1,h2⟩
 ·intro T G;refine⟨G.tb,λj e b q=>?_⟩;obtain⟨w,h1,h2⟩:=G.at' j e b q;have ne:i≠j:=λz=>by subst z;rw[cl i hi]at q;cases q
  exact⟨w,by rw[vB ne];exact h1,h2⟩
def JC (X:Cx)(G:QD)(c:FT):Prop:=∀(ae:AO)(s:Shared)(σ:St)(H:Hp)(Q:Bool->Hp->Prop),Inv X ae σ H s->AB X.K c σ H Q ->
 wq X (forIn G true λc r=>if r=true then do let ok ←isTrue c X.env (eval c X.env);pure (ForInStep.yield ok)else pure (ForInStep.yield r)) (TP X ae σ Q) X.xe s
@[simp] noncomputable def fH:FT:=λ_=>some true
def gZ:JC X [] fH:=by
 intro ae s σ H Q I h;obtain⟨B,ρ,c,G,rep,e,q⟩:=h;cases e
 exact wpAny_tests_nil ⟨H,I,q H (.refl H)⟩
def eN (h:JT X e f):JC X [e] f:=λae s σ H Q I q=>wpAny_tests_one (h ae s σ H Q I q)
inductive CI (Y:Cx)(tn:Nat->Heap->Prop)(fp:List Addr)(N1 H2:Hp)(κ:Env)(a:Addr)(l:List D->Option (List D))(items ds:List D)(s:Shared):Nat->Prop
 |mk (i:Nat) (N:Hp) (vs:List V) (es r:List D) (σ:St) (H:Hp) (I:Inv Y [] σ H s) (ti:tn i s.heap) (hn:∀b∈fp,H b=none) (hi:i<=items.length) (rp:fR Y.K N1 σ κ) (hl:κ.length=σ.length)
   (x:Ext N1 N H2 H) (n0:N a=none) (h0:H a=some (.lst vs)) (vl:vs.length<=i) (iv:IsL Y.K N vs es) (er:l (items.drop i)=some r) (ed:es++r=ds):CI Y tn fp N1 H2 κ a l items ds s (items.length - i)
def Ext.both (x:Ext N1 N H2 H)(y:Ext N1 N' H H'):Ext N (join N N') H H'/\bc N' (join N N'):=by
 refine⟨⟨y.hh,eM,λa o e=>?_,λa o e=>?_⟩,λa o e=>?_⟩
 ·cases z:N a with
  |some G=>rw[eM _ _ z]at e;cases e;exact y.hh _ _ (x.nh _ _ z)
  |none=>rw[eE z]at e;exact y.nh _ _ e
 ·cases z:N a with
  |some G=>rw[eM _ _ z]at e;cases e;exact .inl rfl
  |none=>
   rw[eE z]at e;exact(y.new a o e).elim (λM=>by rw[x.bn _ _ M]at z;cases z) .inr
 ·exact(y.new a o e).elim (λz=>eM _ _ (x.bn _ _ z)) λz=>by rw[eE (x.nh.free z)];exact e
def Ext.off (x:Ext B N H H')(h:B a=none)(h':H a=some o):N a=none:=by
 cases z:N a with
 |none=>rfl
 |some u=>
  rcases x.new _ _ z with z|z
  ·rw[h]at z;cases z
  ·rw[h']at z;cases z
def C1 {Y:Cx}(O:Y.calm=true)(hE:∀x s,¬Y.xe x s)(hg:PG Y tg g)(OK:JF Y.K nT pj g)(hc:JC Y A1 fc)(he:JE Y wK fe)(T:Turn Y.prog Y.w Y.K tg J fp it tn)(OL:∀i,i<nT->κ[i]? = some none)
  (J1:nj Y.K J N1 items) (hsz:items.length<=sizeLine) (hD:H2 a=none) (Ro:∀H',(∀b∈fp,H' b=none)->∀b∈fp,mU Y [] H' b)
  (hR:∀s4 M H' N vs,Inv Y [] M H' s4->Ext N1 N H2 H'->N a=none->H' a=some (.lst vs)->IsL Y.K N vs ds->R (.ok .next) s4) (h:CI Y tn fp N1 H2 κ a (gJ pj fc fe κ) items ds s items.length):
  codeAny (model Y.prog Y.w) Y.A (.compLoop (.ListComp wK [⟨tg,gp,A1,0⟩] scope pos) 0 (.ref it) (.ref a) Y.env) R s:=by
 refine uF hE (λn s=>CI Y tn fp N1 H2 κ a (gJ pj fc fe κ) items ds s n) (λn s' h=>?_) _ h;obtain⟨i,N,vs,es,r,M,H',I',ti,hn,hi,rp,kJ,x,PJ,OM,Mw,ON,er,PK⟩:=h;have sH:bc N1 H':=x.bn.trans x.nh;by_cases zq:i<items.length
 ·obtain⟨go,yl⟩:=(J1 i H' sH).1 items[i] (by simp[zq]);refine cn (T.item Y rfl rfl rfl O i [] s' M H' Y.xe I' (Ro _ hn) ti go) λq s4 ⟨u,eu,hq⟩=>?_;subst eu;refine cn hq λ_ s5 ⟨xv,H5,I5,rx,y5,t5,Rg⟩=>?_;obtain⟨N5,x5,i5⟩:=yl xv H5 y5;obtain⟨x6,c5⟩:=x.both x5;have Th:(join N N5) a=none:=x6.off PJ OM;have PL:bc (join N N5) H5:=x6.nh;rw[List.drop_eq_getElem_cons zq]at er;unfold gJ at er;obtain⟨ρ1,e1,er⟩:=oX er;obtain⟨b,e2,er⟩:=oX er;have iB:∀(s9:Shared)(U:St)(H9 N9:Hp)(OO:LV)(PM r9:LD),Inv Y (mV fp s5.heap) U H9 s9->fR Y.K N1 U κ->κ.length=U.length->Ext N1 N9 H2 H9->N9 a=none->H9 a=some (.lst OO) ->
    OO.length<=i+1->IsL Y.K N9 OO PM->gJ pj fc fe κ (items.drop (i+1))=some r9->PM++r9=ds->∃m,m<items.length - i/\CI Y tn fp N1 H2 κ a (gJ pj fc fe κ) items ds s9 m:=λs9 U H9 N9 OO PM r9 I9 Vx l9 x9 n9 h9 v9 i9 Vy Vz=>
   ⟨_,by omega,i+1,N9,OO,PM,r9,U,H9,I9.pins_of λp hp=>by simp at hp,T.keep _ _ _ t5 λb hb o e=>(I9.pin (b,o) (mY _ (jx hb e))).1,λb hb=>by
    obtain⟨o,e,d⟩:=T.obj _ _ t5 b hb;exact(I9.pin (b,o) (mY _ (jx hb e))).2.1,zq,Vx,l9,x9,n9,h9,v9,i9,Vy,Vz⟩
  refine cn (hg (mV fp s5.heap) s5 M H5 xv u (λG H6=>H6=H5/\fR Y.K (join N N5) G ρ1/\fR Y.K N1 G κ/\κ.length=G.length) (I5.pinned (Ro _ Rg) (T.obj _ _ t5)) rx
   (OK (join N N5) H5 M κ ρ1 xv items[i] _ OL (rp.mono (x.bn.trans eM)) PL (i5.mono c5) e1 kJ λσ1 r1 r2 l1=>⟨rfl,r1,r2 N1 rp,l1⟩)) λ_ s6 ⟨G,H6,I6,eH,Ti,Tj,l6⟩=>?_
  subst eH;have Rp:H6 a=some (.lst vs):=x5.hh _ _ OM;refine cn (hc _ s6 G H6 (λc H7=>c=b/\bc H6 H7) I6 ⟨join N N5,ρ1,b,PL,Ti,e2,λH7 h7=>⟨rfl,h7⟩⟩) λok s7 ⟨H7,I7,eb,h7⟩=>?_;subst eb;have x7:Ext N1 (join N N5) H2 H7:=(x.trans x6).trans (.grow PL h7);cases ok with
  |false=>
   rw[if_neg (by decide)]at er ⊢;exact iB s7 G H7 (join N N5) vs es r I7 Tj l6 x7 Th (h7 _ _ Rp) (le_succ_of_le Mw) (ON.mono eM) er PK
  |true=>
   rw[if_pos rfl]at er ⊢;obtain⟨y,e3,er⟩:=oX er;obtain⟨r',e4,er⟩:=oY er;subst er;refine cn (he _ s7 G H7 (λv H8=>∃N8,Ext (join N N5) N8 H7 H8/\Is Y.K N8 v y.1) I7 ⟨join N N5,ρ1,y.1,y.2,PL.trans h7,Ti,e3,λv H8 N8 x8 i8 _=>⟨N8,x8,i8⟩⟩) λw8 s8 ⟨v8,H8,I8,r8,N8,x8,i8⟩=>?_;refine cn (nc _ s8 G H8 (.ref a) [v8] (.ref a) [w8] (λ_ H9=>H9=upd H8 a (.lst (vs++[v8]))) I8 rfl (.cons r8 .nil) ⟨_,vs,v8,rfl,rfl,x8.hh _ _ (h7 _ _ Rp),by omega,rfl⟩) λ_ s9 ⟨_,H9,I9,_,e9⟩=>?_;subst e9;have Tk:=x8.off Th (h7 _ _ Rp);exact iB s9 G _ N8 (vs++[v8]) (es++[y.1]) r' I9 Tj l6 ((x7.trans x8).upd hD Tk) Tk aC (by rw[uZ,length_singleton];omega) ((ON.mono (eM.trans x8.bn)).append (.cons i8 .nil)) e4 (by rw[append_assoc];exact PK)
 ·obtain rfl:i=items.length:=by omega
  rw[List.drop_eq_nil_of_le (vT _)]at er;cases er
  rw[uQ]at PK;subst PK;refine cn (T.done Y rfl rfl rfl O items.length [] s' M H' Y.xe I' (Ro _ hn) ti ((J1 _ H' sH).2 (vT _))) λq s4 ⟨hq,I9⟩=>?_;subst hq;exact hR s4 M H' N vs I9 x PJ OM ON
def pD {X:Cx}(OP:X.calm=true){tg gp wK:Expr}{A1:QD}{scope:Scope}{pos:Pos}{cl:List (Str×Addr)}{N':LS}{nT:Nat}{cap:LN}{pj:FG}{g:TG}{fc:FT}{fe:FE}
  (S:CompSc X scope cl) (cp:mT X N' scope cl nT cap)
  (hg:∀C s H fp,PG (iM X N' scope cl C s H fp) tg g) (OK:JF X.K nT pj g) (hc:∀C s H fp,JC (iM X N' scope cl C s H fp) A1 fc) (he:∀C s H fp,JE (iM X N' scope cl C s H fp) wK fe)
  {ae:AO}{σ:St}{H2:Hp}{s2:Shared}{it:Addr}{fp:List Addr}{tn:Nat->Heap->Prop}{J:It}{N1:Hp}{ρ:Env}{items ds:LD}{E:QV}
  (I2:Inv X ae σ H2 s2) (T:Turn X.prog X.w X.K tg J fp it tn) (Jm:tn 0 s2.heap) (f2:∀b∈fp,mU X ae H2 b)
  (rep:fR X.K N1 σ ρ) (sN:bc N1 H2) (J1:nj X.K J N1 items) (hsz:items.length<=sizeLine) (ec:gJ pj fc fe (dN nT cap ρ) items=some ds) {RR:Value->Addr->Result->Shared->Prop}
  (V0:∀(Dd C:Addr)(s':Shared)(H' N:Hp)(vs:LV)(m:SV),H2 Dd=none->Inv X ae σ H' s'->s'.heap.Ns C m->mU X ae H' C->Ext N1 N H2 H'->N Dd=some (.lst vs)->IsL X.K N vs ds->RR (.ref Dd) C (.ok .next) s'):
  wq X (newList []) (λCc U=>wq X (newFunctionEnv scope X.env.globals cl [] X.env.qual none .none (some X.env)) (λOQ s₄=>
   codeAny (model X.prog X.w) X.A (.compStart (.ListComp wK [⟨tg,gp,A1,0⟩] scope pos) 0 (.ref it) Cc { OQ with scope:=relabel scope X.env }) (RR Cc OQ.locals) s₄) E U) E s2:=by
 refine wpAny_newObj_type (wpAny_newFunctionEnv S.nocell (by intro y hy;simp at hy) (λh₁ M O=>?_) S.kind);dsimp only at M O ⊢;have hD:H2 s2.heap.objs.size=none:=I2.fresh;have I3:Inv X ae σ (upd H2 s2.heap.objs.size (.lst [])) { s2 with heap:=s2.heap.push { cls:=.type "list",dict:=none,data:=.seq ([]:LU).toArray } }:=I2.lnew (t':=s2.toks) (ys:=[]) (its:=[]) .nil (uN _);generalize hH3:s2.heap.push { cls:=.type "list",dict:=none,data:=.seq ([]:LU).toArray }=g3 at M O I3 ⊢;have hC:g3.objs.size=s2.heap.objs.size+1:=by rw[←hH3,Heap.size_push]
 have Jo:∀b o,s2.heap.get? b=some o->g3.get? b=some o:=λb o e=>hH3 ▸ vZ _ e;have G:∀b o,g3.get? b=some o->h₁.get? b=some o:=λb o e=>O.extBut b o (vS (vX e)) (vZ _ e);have V1:∀b o,g3.get? b=some o->b≠g3.objs.size:=λb o e=>vS (vX e);have Tl:∀b∈fp,∃o,s2.heap.get? b=some o:=λb hb=>let ⟨o,e,_⟩:=T.obj 0 s2.heap Jm b hb;⟨o,e⟩;have V2:∀b∈fp,b≠s2.heap.objs.size:=λb hb=>let ⟨o,e⟩:=Tl b hb;vS (vX e);have Tn:∀b∈fp,b≠g3.objs.size:=λb hb=>let ⟨o,e⟩:=Tl b hb;V1 b o (Jo b o e);have To:∀x c,X.env.cells.lookup x=some c->c≠g3.objs.size:=λx c e=>by
  obtain⟨v,z⟩:=I3.cell x c e;exact vS z.lt
 have V3:(upd H2 s2.heap.objs.size (HO.lst [])) g3.objs.size=none:=I3.hok.fresh (vT _);have stk:∀b∈D0 X.stack,∃o,s2.heap.get? b=some o:=λb hb=>by
  obtain⟨_,o,ho,_⟩:=(I2.stack).mem hb;exact⟨o,ho⟩
 -- the block's context
 let Y:Cx:=iM X N' scope cl g3.objs.size { s2 with heap:=g3 } (upd H2 s2.heap.objs.size (.lst [])) fp;have ok:Y.Ok:=by
  refine⟨I2.ok.mod,?_,I2.ok.glob,I2.ok.blt,vT _,λx y c e1 e2=>I2.ok.inj x y c (S.sub x c e1) (S.sub y c e2),λx h=>S.has x h,λx c h=>absurd h uX,I2.ok.hd,I2.ok.frames,.inl rfl,λb hb=>⟨Tn b hb,λx c e=>(f2 b hb).2.2.2.2.1 x c (S.sub x c e)⟩,λb o e=>?_,?_,λb o e hb=>?_,λb hb hz=>?_,I3.stack,λb hb=>I3.stkFree b hb⟩
  ·show(relabel scope X.env).kind=.function;exact S.kind
  ·exact I3.bs b o e
  ·exact vR I3.ok.bsz I3.sz
  ·have h1:=(f2 b hb).2.2.2.1;rcases h1 with z|z
   ·exact I2.ok.noex b o e z
   ·exact absurd (vQ (vX e) (vR I2.ok.bsz z)) (Nat.lt_irrefl _)
  ·rcases vP (I2.stkSub b hz)with z|z
   ·exact(f2 b hb).2.1 z
   ·exact(f2 b hb).2.2.1 z
 have I4:Inv Y [] (rY nT cap σ) (upd H2 s2.heap.objs.size (.lst [])) { s2 with heap:=h₁,toks:=s2.toks+([]:List (Str×Value)).length }:=by
  refine⟨ok,rfl,I2.bare,Un.kept G,⟨_,M,λj x v e1 e2 e3=>?_⟩,λx c e=>?_,V3,λx c e=>I3.freeC x c (S.sub x c e),λp hp=>absurd (show p∈[]from hp) not_mem_nil,I3.hok.kept G,?_⟩
  ·obtain⟨k,i,rfl,h1,h2⟩:=uG e2;obtain⟨y,g1,g2,Tp,g4,g5⟩:=cp.get h1;have Tq:N'[nT+k]? = some x:=e1;rw[g1]at Tq;cases Tq;have PF:σ[i]? = some (some v):=by
    cases q:σ[i]? with
    |none=>rw[q]at h2;cases h2
    |some z=>rw[q]at h2;have:z=some v:=h2;rw[this]
   obtain⟨m,_,hl⟩:=I3.loc;obtain⟨u,r,l⟩:=hl i _ v g2 PF (Tp.elim (λz=>.inr (.inl z)) λz=>.inr (.inr z));refine⟨u,r,?_⟩;rcases l with⟨l,_⟩|⟨_,c,lc,ic⟩
   ·rcases Tp with z|z<;>(rw[z]at l;cases l)
   ·refine .inr ⟨g4,c,by show cl.lookup _=some c;rw[g5];exact lc,?_⟩;obtain⟨o,ho,hd⟩:=ic;exact⟨o,G _ _ ho,hd⟩
  ·obtain⟨v,o,ho,hd⟩:=I3.cell x c (S.sub x c e);exact⟨v,o,G _ _ ho,hd⟩
  ·show(rY nT cap σ).length=N'.length;unfold rY;rw[cp.len];simp
 have loop:∀U:Shared,U={ s2 with heap:=h₁,toks:=s2.toks+([]:List (Str×Value)).length }->codeAny (model Y.prog Y.w) Y.A (.compLoop (.ListComp wK [⟨tg,gp,A1,0⟩] scope pos) 0 (.ref it) (.ref s2.heap.objs.size) Y.env) (RR (.ref s2.heap.objs.size) g3.objs.size) U:=by
  rintro U rfl;refine C1 (Y:=Y) OP (λ_ _ z=>z) (hg _ _ _ _) OK (hc _ _ _ _) (he _ _ _ _) T (λi hi=>?_) J1 hsz hD (λH' hn b hb=>⟨hn b hb,Tn b hb,ok.exfs b hb,.inl hb,λx c e=>(f2 b hb).2.2.2.2.1 x c (S.sub x c e),λp hp=>absurd (show p∈[]from hp) not_mem_nil⟩) (λs4 σ' H' N vs I9 x PJ OM ON=>?_)
   ⟨0,N1,[],[],ds,rY nT cap σ,_,I4,T.keep _ _ _ Jm λb hb o e=>G _ _ (Jo _ _ e),λb hb=>?_,uN _,rep.caps,?_,(Ext.refl sN).upd hD (sN.free hD),sN.free hD,aC,uN _,.nil,by simpa using ec,rfl⟩
  ·unfold dN;rw[getElem?_append_left (by simpa using hi),getElem?_replicate,if_pos hi]
  ·obtain⟨m,hm,_⟩:=I9.loc;have k:bc N (upd N s2.heap.objs.size (.lst vs)):=λa o e=>by rw[aI (λz=>by subst z;rw[PJ]at e;cases e)];exact e
   refine V0 s2.heap.objs.size g3.objs.size s4 H' (upd N s2.heap.objs.size (.lst vs)) vs m hD (I2.call' (ch:=fp) I9.os ((Un.laid Jo (vT _) hD).trans I9.base) I9.hok I9.bare λb hb=>⟨(f2 b hb).2.2.2.1,(f2 b hb).2.1,(f2 b hb).2.2.2.2.1,(f2 b hb).2.2.2.2.2⟩) hm (I2.fpOk (by rw[hC];exact le_succ _) I9.free) ⟨x.hh,x.bn.trans k,λa o e=>?_,λa o e=>?_⟩ aC (ON.mono k)
   ·by_cases z:a=s2.heap.objs.size
    ·subst z;rw[aC]at e;cases e;exact OM
    ·rw[aI z]at e;exact x.nh _ _ e
   ·by_cases z:a=s2.heap.objs.size
    ·subst z;exact .inr hD
    ·rw[aI z]at e;exact x.new _ _ e
  ·rw[aI (V2 b hb)];exact(f2 b hb).1
  ·unfold dN rY;simp
 exact codeAny_compStart_list (loop _ rfl) (T.self _ 0 _ _ _ (T.keep _ _ _ Jm λb hb o e=>G _ _ (Jo _ _ e)) (loop _ rfl))
def Hi (G:X.calm=true) 
  (S:CompSc X scope cl) (cp:mT X N' scope cl nT cap) (hi:JI X tg gp fi)
  (hg:∀C s H fp,PG (iM X N' scope cl C s H fp) tg g) (O:JF X.K nT pj g) (hc:∀C s H fp,JC (iM X N' scope cl C s H fp) A1 fc) (he:∀C s H fp,JE (iM X N' scope cl C s H fp) wK fe)
  (hs:∀x,foldedSetIterable gp X.env x=pure x:=by intro _;rfl):
  JE X (.ListComp wK [⟨tg,gp,A1,0⟩] scope pos) (bK fi nT cap pj fc fe):=by
 intro ae s σ H Q I h;obtain⟨B,ρ,d,b,sB,rep,e,q⟩:=h;obtain⟨items,ei,e⟩:=oX e;have hsz:items.length<=sizeLine:=Decidable.byContradiction λz=>by rw[if_neg z]at e;cases e
 rw[if_pos hsz]at e;obtain⟨ds,ec,e⟩:=oY e;cases e
 rw[eval_ListComp];refine wpAny_comprehension_free (use:=none) rfl hs S.clos S.kind S.names (cn (hi ae s σ H (λJ H2=>∃N1,Ext B N1 H H2/\nj X.K J N1 items) I ⟨B,ρ,items,sB,rep,ei,λJ H2 N1 M U=>⟨N1,M,U⟩⟩) λv s1 h1=>cn h1 λTd s2 h2=>?_);obtain⟨it,fp,tn,J,H2,e,I2,T,Jm,f2,N1,M,U⟩:=h2;subst e;refine pD G S cp hg O hc he I2 T Jm f2 (rep.mono M.bn) M.nh U hsz ec (RR:=λCc C=>compPost (model X.prog X.w) X.A X.xe none (EP X ae σ Q) Cc C) ?_;intro Dd C s' H' N vs m hD I' hm fC x hN hl;refine⟨m,hm,λh' hs'=>⟨.ref Dd,H',?_,rfl,q _ H' N (M.trans x) (.lst (fT.of hN) hl) λ_=>⟨Dd,vs,ds,rfl,rfl,M.hh.free hD,hN,hl⟩⟩⟩;obtain⟨c0,c1,c2,c3,c4,c5⟩:=fC;exact I'.turned (t':=s'.toks) (λb o hb e=>(hs'.2 b hb).trans e) c0 c1 c3 c4 c5
def Hj (M:X.calm=true) 
  (hN:X.N.Nodup) (Rq:X.N[i]? = some y) (hy:X.env.kindOf y=some .local)
  (V4:swapsWith (.ListComp wK [⟨tg,G,O,0⟩] scope pos) (some (.Name y py)) spos.line X.env=pure true)
  (S:CompSc X scope cl) (cp:mT X N' scope cl nT cap) (hi:JI X tg G fi)
  (hg:∀C s H fp,PG (iM X N' scope cl C s H fp) tg g) (OK:JF X.K nT pj g) (hc:∀C s H fp,JC (iM X N' scope cl C s H fp) O fc) (he:∀C s H fp,JE (iM X N' scope cl C s H fp) wK fe)
  (hs:∀x,foldedSetIterable G X.env x=pure x:=by intro _;rfl):
  JS X (.Assign [.Name y py] (.ListComp wK [⟨tg,G,O,0⟩] scope pos) spos) (aK i (bK fi nT cap pj fc fe)):=by
 intro ae s σ H E I h;have h2:wS (tD X.K (bK fi nT cap pj fc fe)) (ja i) E σ H:=AE h;obtain⟨B,ρ,d,b,sB,rep,e,q⟩:=h2;obtain⟨items,ei,e⟩:=oX e;have hsz:items.length<=sizeLine:=Decidable.byContradiction λz=>by rw[if_neg z]at e;cases e
 rw[if_pos hsz]at e;obtain⟨ds,ec,e⟩:=oY e;cases e
 rw[exec_Assign_Name_used _ _ _ _ V4];refine wX (wpAny_standAt (wX ?_));show wpAny _ _ (do let _ ←comprehension (.ListComp wK [⟨tg,G,O,0⟩] scope pos) scope X.env _ (newList []) false (eval G X.env) (some (assign (.Name y py) X.env))) _ _ s;refine wX (wpAny_mono (wpAny_comprehension_free (use:=some (assign (.Name y py) X.env)) (Q:=λ_ s'=>SP X ae E .next s') rfl hs S.clos S.kind S.names
  (cn (hi ae s σ H (λJ H2=>∃N1,Ext B N1 H H2/\nj X.K J N1 items) I ⟨B,ρ,items,sB,rep,ei,λJ H2 N1 U j1=>⟨N1,U,j1⟩⟩) λv s1 h1=>cn h1 λTd s2 h2=>?_)) (λ_ s' hq=>wY (wY hq)) λ_ _ e=>e)
 obtain⟨it,fp,tn,J,H2,e,I2,T,Jm,f2,N1,U,j1⟩:=h2;subst e;refine pD M S cp hg OK hc he I2 T Jm f2 (rep.mono U.bn) U.nh j1 hsz ec (RR:=λCc C=>compPost (model X.prog X.w) X.A X.xe (some (assign (.Name y py) X.env)) (λ_ s'=>SP X ae E .next s') Cc C) ?_;intro Dd C s' H' N vs m hD I' hm fC x Tr hl;show wpAny _ _ (assign (.Name y py) X.env (.ref Dd)) _ _ s';obtain⟨c0,c1,c2,c3,c4,c5⟩:=fC;refine wpAny_assign_Name (sx I' hN Rq (.inl hy) (r:=show aY (.ref Dd) (.ref Dd)from rfl) (λs9 I9 ⟨a,sb,ha⟩=>?_) (.inr hy));have nC:C≠a:=by
  rcases ha with z|z
  ·rw[z];exact c1
  ·exact λw=>c4 y a z w.symm
 refine⟨m,hm.sameBut sb nC,λh' hs'=>⟨_,H',?_,q _ H' N (U.trans x) (.lst (fT.of Tr) hl) λ_=>⟨Dd,vs,ds,rfl,rfl,U.hh.free hD,Tr,hl⟩⟩⟩;exact I9.turned (t':=s9.toks) (λb o hb e=>(hs'.2 b hb).trans e) c0 c1 c3 c4 c5
section
variable {X:Cx}{a b c e:Expr}{pos:Pos}
def PE.to (h:PE X e t)(k:∀σ H Q,t' σ H Q->t σ H Q):PE X e t':=λae s σ H Q I q=>h ae s σ H Q I (k σ H Q q)
def PT.to (h:PT X e t)(k:∀σ H Q,t' σ H Q->t σ H Q):PT X e t':=λae s σ H Q I q=>h ae s σ H Q I (k σ H Q q)
def PW.to (h:PW X e t)(k:∀σ H Q,t' σ H Q->t σ H Q):PW X e t':=λG ae s σ H Q I q=>h G ae s σ H Q I (k σ H Q q)
def PA.to (h:PA X es t)(k:∀σ H Q,t' σ H Q->t σ H Q):PA X es t':=λpos ae s σ H Q I q=>h pos ae s σ H Q I (k σ H Q q)
def PS.to {st:Stmt}{t t':TS}(h:PS X st t)(k:∀E σ H,t' E σ H->t E σ H):PS X st t':=λae s σ H E I q=>h ae s σ H E I (k E σ H q)
def sy.to {st:List Stmt}{t t':TS}(h:sy X st t)(k:∀E σ H,t' E σ H->t E σ H):sy X st t':=λae s σ H E I q=>h ae s σ H E I (k E σ H q)
def PI.to (h:PI X tg it t)(k:∀σ H Q,t' σ H Q->t σ H Q):PI X tg it t':=λae s σ H Q I q=>h ae s σ H Q I (k σ H Q q)
def C2 {K:Frag}{d:D}{v:V}(i:∀B,Is K B v d){σ:St}{H:Hp}{Q:VK}(h:tD K (fC d) σ H Q):tC v σ H Q:=by
 obtain⟨B,ρ,d',b,s,r,e,q⟩:=h;cases e
 exact q.one s (i B)
def pv (M:X.N[i]? = some x:=by rfl)(hv:Kx X.env.scope x:=by first|exact Or.inl rfl|exact Or.inr (Or.inl rfl)|exact Or.inr (Or.inr rfl))(hd:(x == ("__debug__" : Str))=false:=by decide)
  (G:(x == ("__classdict__" : Str))=false:=by decide):PE X (.Name x pos) (oB i):=px M hv hd G
def ag (i:Nat)(G:PE X (.Name x pos) (oB i):=by exact pv):JE X (.Name x pos) (ai i):=PE.to G λ_ _ _ h=>Lo h
def aq:JE X (.Constant (.int i) j pos) (fC (.int i)):=PE.to DA λ_ _ _ h=>C2 (λ_=>.int i) h
def eQ:JE X (.Constant (.bool i) j pos) (fC (.bl i)):=PE.to Nc λ_ _ _ h=>C2 (λ_=>.bl i) h
def dO:JE X (.Constant .none j pos) (fC .non):=PE.to Ky λ_ _ _ h=>C2 (λ_=>.non) h
def aA:JE X (.Constant (.str x) j pos) (fC (.str x)):=PE.to Kz λ_ _ _ h=>C2 (λ_=>.str x) h
def Hk (G:Gl X x)(hm:X.mg x=some u)(r:aY v u)(i:∀B,Is X.K B v d)(hd:(x == ("__debug__" : Str))=false:=by decide):JE X (.Name x pos) (fC d):=PE.to (A2 G hm r hd) λ_ _ _ h=>C2 i h
def aw (ho:dw X (binaryOp op) (rD X.K f))(ha:JE X a fa)(hb:JE X b fb):JE X (.BinOp a op b pos) (f2 f fa fb):=PE.to (Jy ho ha hb) λ_ _ _ h=>GY h
def Ef (ho:Nw X (unaryOp op) (Q2 X.K f))(ha:JE X a fa):JE X (.UnaryOp op a pos) (f1 f fa):=PE.to (Jz ho ha) λ_ _ _ h=>Q3 h
def cq (ho:dw X (compareOp op) (rD X.K f))(ha:JE X a fa)(hb:JE X b G)(hm:behindInMarks op b=false:=by first|exact iZ _ (by decide) (by decide)|rfl):JE X (.Compare a [op] [b] pos) (f2 f fa G):=PE.to (GG ho ha hb hm) λ_ _ _ h=>GY h
def uH {K:Frag}{f:FE}{σ:St}{H:Hp}{Q:Bool->Hp->Prop}(h:AB K (bj f) σ H Q):tD K f σ H λx H'=>∃k,x=.bl k/\Q k H':=by
 obtain⟨B,ρ,c,s,r,e,q⟩:=h;unfold bj at e;split at e
 ·rename_i M b' G;cases e
  refine⟨B,ρ,.bl c,b',s,r,G,λv H' N x i _=>?_⟩;cases i
  exact⟨c,rfl,q H' x.hh⟩
 ·cases e
def aH (ho:dw X (compareOp op) (rD X.K f))(ha:JE X a fa)(hb:JE X b fb)(hm:behindInMarks op b=false:=by first|exact iZ _ (by decide) (by decide)|rfl):JT X (.Compare a [op] [b] pos) (bj (f2 f fa fb)) :=
 PT.to (GH ho ha hb hm) λ_ _ _ h=>GY (uH h)
def bY (h:JE X e f)(he:∀G,isTrue e X.env G=(do let v ←G;standAt e.pos;holding [v] (truthy v)):=by intro _;rfl):JT X e (bj f):=PT.to (K3 h he) λ_ _ _ q=>uH q
@[simp] noncomputable def j0 (f g:D->D->OB)(fa G M:FE):FE:=λρ=>(fa ρ).bind λx=>(G ρ).bind λy=>match f x.1 y.1 with
 |some (.bl true,_)=>(M ρ).bind λz=>g y.1 z.1
 |some (.bl false,_)=>some (.bl false,false)
 |_=>none
def xm {K:Frag}{f g:D->D->OB}{fa fb fc:FE}{σ:St}{H:Hp}{Q:VK}(h:tD K (j0 f g fa fb fc) σ H Q):zw (rD K f) (rD K g) (tD K fa) (tD K fb) (tD K fc) σ H Q:=by
 obtain⟨B,ρ,d,b,s,r,e,q⟩:=h;obtain⟨x,ex,e⟩:=oX e;obtain⟨y,ey,e⟩:=oX e;refine⟨B,ρ,x.1,x.2,s,r,ex,λv H1 N1 O i1 _=>⟨N1,ρ,y.1,y.2,O.nh,r.mono O.bn,ey,λv2 H2 N2 G T _=>?_⟩⟩;split at e
 ·rename_i b' U;obtain⟨z,ez,e⟩:=oX e;refine⟨N2,x.1,y.1,.bl true,b',G.nh,i1.mono G.bn,T,U,λv3 H3 N3 M i3 _=>?_⟩;cases i3
  refine⟨true,rfl,?_⟩;rw[if_pos rfl];refine⟨N3,ρ,z.1,z.2,M.nh,r.mono (O.bn.trans (G.bn.trans M.bn)),ez,λv4 H4 N4 x4 i4 _=>⟨N4,y.1,z.1,d,b,x4.nh,T.mono (M.bn.trans x4.bn),i4,e,?_⟩⟩;exact q.into ((O.trans G).trans (M.trans x4))
 ·rename_i b' U;cases e
  refine⟨N2,x.1,y.1,.bl false,b',G.nh,i1.mono G.bn,T,U,λv3 H3 N3 M i3 _=>?_⟩;cases i3
  refine⟨false,rfl,?_⟩;rw[if_neg (by decide)];exact(q.into ((O.trans G).trans M)).one M.nh (.bl false)
 ·cases e
def Eg (ho:dw X (compareOp op) (rD X.K f))(G:dw X (compareOp OR) (rD X.K g))(ha:JE X a fa)(hb:JE X b fb)(hc:JE X c fc)
  (hm:lastMarks [op,OR] [b,c]=false:=by with_unfolding_all rfl):JE X (.Compare a [op,OR] [b,c] pos) (j0 f g fa fb fc):=PE.to (DH ho G ha hb hc hm) λ_ _ _ h=>xm h
def Eh (ho:dw X (compareOp op) (rD X.K f))(G:dw X (compareOp OR) (rD X.K g))(ha:JE X a fa)(hb:JE X b fb)(hc:JE X c fc)
  (hm:lastMarks [op,OR] [b,c]=false:=by with_unfolding_all rfl):JT X (.Compare a [op,OR] [b,c] pos) (bj (j0 f g fa fb fc)):=PT.to (DI ho G ha hb hc hm) λ_ _ _ h=>xm (uH h)
def Hl {K:Frag}{f g:FT}{σ:St}{H:Hp}{Q:Bool->Hp->Prop}(h:AB K (fG f g) σ H Q):Nd (AB K f) (AB K g) σ H Q:=by
 obtain⟨B,ρ,c,s,r,e,q⟩:=h;unfold fG at e;cases G:f ρ with
 |none=>rw[G]at e;cases e
 |some k=>
  rw[G]at e;refine⟨B,ρ,k,s,r,G,λM h1=>?_⟩;cases k with
  |true=>rw[if_pos rfl];exact⟨B,ρ,c,s.trans h1,r,e,λH2 h2=>q H2 (h1.trans h2)⟩
  |false=>rw[if_neg (by decide)];cases e;exact q M h1
def Ls {K:Frag}{f g:FT}{σ:St}{H:Hp}{Q:Bool->Hp->Prop}(h:AB K (gY f g) σ H Q):Sw (AB K f) (AB K g) σ H Q:=by
 obtain⟨B,ρ,c,s,r,e,q⟩:=h;unfold gY at e;cases G:f ρ with
 |none=>rw[G]at e;cases e
 |some k=>
  rw[G]at e;refine⟨B,ρ,k,s,r,G,λM h1=>?_⟩;cases k with
  |false=>rw[if_neg (by decide)];exact⟨B,ρ,c,s.trans h1,r,e,λH2 h2=>q H2 (h1.trans h2)⟩
  |true=>rw[if_pos rfl];cases e;exact q M h1
def Hm {K:Frag}{f:FT}{σ:St}{H:Hp}{Q:Bool->Hp->Prop}(h:AB K (dC f) σ H Q):Nf (AB K f) σ H Q:=by
 obtain⟨B,ρ,c,s,r,e,q⟩:=h;obtain⟨k,ek,e⟩:=oY e;subst e;exact⟨B,ρ,k,s,r,ek,λG h1=>q G h1⟩
variable {aE:QD}
def j4 (ha:JT X a f):JW X (.BoolOp .And [a] pos) f:=G8 ha
def hG (ha:JT X a f):JW X (.BoolOp .Or [a] pos) f:=K4 ha
def l7 (ha:JT X a f)(hb:JW X (.BoolOp .And (b::aE) pos) g):JW X (.BoolOp .And (a::b::aE) pos) (fG f g):=PW.to (K5 ha hb) λ_ _ _ h=>Hl h
def iC (ha:JT X a f)(hb:JW X (.BoolOp .Or (b::aE) pos) g):JW X (.BoolOp .Or (a::b::aE) pos) (gY f g):=PW.to (Ng ha hb) λ_ _ _ h=>Ls h
def jN (h:JW X e f):JT X e f:=h.pt
def eO (ha:JT X a f):JT X (.UnaryOp .Not a pos) (dC f):=PT.to (K6 ha) λ_ _ _ h=>Hm h
@[simp] noncomputable def jS (f g:FE):FE:=λρ=>match f ρ with|some (.bl true,_)=>g ρ|some (.bl false,_)=>some (.bl false,false)|_=>none
@[simp] noncomputable def Lu (f g:FE):FE:=λρ=>match f ρ with|some (.bl true,_)=>some (.bl true,false)|some (.bl false,_)=>g ρ|_=>none
def gG (ha:JE X a f)(hb:JE X (.BoolOp .And (b::aE) pos) g):JE X (.BoolOp .And (a::b::aE) pos) (jS f g):=PE.to (K8 ha hb) λσ H Q h=>by
 obtain⟨B,ρ,d,k,s,r,e,q⟩:=h;unfold jS at e;split at e
 ·rename_i b' M;refine⟨B,ρ,_,_,s,r,M,λv T N1 G O _=>?_⟩;cases O
  refine⟨true,rfl,?_⟩;rw[if_pos rfl];exact⟨N1,ρ,d,k,G.nh,r.mono G.bn,e,q.into G⟩
 ·rename_i b' M;cases e
  refine⟨B,ρ,_,_,s,r,M,λv T N1 G O _=>?_⟩;cases O
  refine⟨false,rfl,?_⟩;rw[if_neg (by decide)];exact(q.into G).one G.nh (.bl false)
 ·cases e
def Ei (ha:JE X a f)(hb:JE X (.BoolOp .Or (b::aE) pos) g):JE X (.BoolOp .Or (a::b::aE) pos) (Lu f g):=PE.to (Ni ha hb) λσ H Q h=>by
 obtain⟨B,ρ,d,k,s,r,e,q⟩:=h;unfold Lu at e;split at e
 ·rename_i b' M;cases e
  refine⟨B,ρ,_,_,s,r,M,λv T N1 G O _=>?_⟩;cases O
  refine⟨true,rfl,?_⟩;rw[if_pos rfl];exact(q.into G).one G.nh (.bl true)
 ·rename_i b' M;refine⟨B,ρ,_,_,s,r,M,λv T N1 G O _=>?_⟩;cases O
  refine⟨false,rfl,?_⟩;rw[if_neg (by decide)];exact⟨N1,ρ,d,k,G.nh,r.mono G.bn,e,q.into G⟩
 ·cases e
def fJ (h:JE X a f):JE X (.BoolOp op [a] pos) f:=K7 h
variable {es:QD}
def ak:JA X [] aj:=PA.to jy λ_ _ _ h=>Ha h
def ah (ha:JE X e f)(hr:JA X es g)(hs:starEach (e::es) X.env=(false,eval e X.env)::starEach es X.env:=by rfl):JA X (e::es) (af f g):=PA.to (gN ha hr hs) λ_ _ _ h=>DZ h
@[simp] noncomputable def aW:LD->OB:=λds=>if ds.length<=sizeLine then some (.tup ds,false)else none
@[simp] noncomputable def aX:LD->OB:=λds=>if ds.length<=sizeLine then some (.lst ds,true)else none
def aZ {G}(h:JA X es f):JE X (.Tuple es G pos) (fA aW f):=PE.to (z4 h) λσ H Q q=>by
 obtain⟨B,ρ,ds,s,r,e,k⟩:=GZ q;refine⟨B,ρ,ds,s,r,e,λvs O N1 G T=>?_⟩;obtain⟨U,XM,d,b,s2,M,e2,k2⟩:=k vs O N1 G T;unfold aW at e2;split at e2
 ·rename_i hz;cases e2
  refine⟨by rw[M.length];exact hz,λp hp=>k2 _ _ (upd U p (.tup vs)) (.laid s2 hp) (.tup (iY.of aC) (M.mono (Ext.laid s2 hp).bn)) (by simp)⟩
 ·cases e2
def bu (h:JA X es f):JE X (.List es pos) (fA aX f):=PE.to (DN h) λσ H Q q=>by
 obtain⟨B,ρ,ds,s,r,e,k⟩:=GZ q;refine⟨B,ρ,ds,s,r,e,λvs O N1 T U=>?_⟩;obtain⟨B2,G,d,b,s2,M,e2,k2⟩:=k vs O N1 T U;unfold aX at e2;split at e2
 ·rename_i hz;cases e2
  refine⟨by rw[M.length];exact hz,λp hp=>k2 _ _ (upd B2 p (.lst vs)) (.laid s2 hp) (.lst (fT.of aC) (M.mono (Ext.laid s2 hp).bn)) λ_=>⟨p,vs,G,rfl,rfl,hp,aC,M.mono (Ext.laid s2 hp).bn⟩⟩
 ·cases e2
end
section
variable {X:Cx}
def iN (h:dw X f r)(k:∀x y H Q,r' x y H Q->r x y H Q):dw X f r':=λae s σ H x y v u Q I G M q=>h ae s σ H x y v u Q I G M (k x y H Q q)
noncomputable def D2 (f g:D->D->OB):D->D->OB:=λx y=>match f x y with|some r=>some r|none=>g x y
def nn (h:dw X s (rD X.K f))(h':dw X s (rD X.K g)):dw X s (rD X.K (D2 f g)):=by
 intro ae st σ H x y v u Q I G M q;obtain⟨B,dx,O,d,b,T,U,iy,e,q⟩:=q;unfold D2 at e;split at e
 ·rename_i r ef;cases e
  exact h ae st σ H x y v u Q I G M ⟨B,dx,O,_,_,T,U,iy,ef,q⟩
 ·exact h' ae st σ H x y v u Q I G M ⟨B,dx,O,_,_,T,U,iy,e,q⟩
@[simp] noncomputable def zj (C:Int->Int->Bool)(g:Int->Int->D):D->D->OB
 |.int i,.int j=>if C i j=true then some (g i j,false)else none
 |_,_=>none
def uI (h:dw X s (rI C g))(G:∀i j,C' i j=true->C i j)(M:∀i j B,Is X.K B (g i j) (g' i j)):dw X s (rD X.K (zj C' g')):=by
 refine iN h λx y H Q q=>?_;obtain⟨B,dx,dy,d,b,O,T,U,e,q⟩:=q;cases T<;>try (cases e;done)
 cases U<;>try (cases e;done)
 rename_i i j;simp only[zj]at e;split at e
 ·rename_i hc;cases e
  exact⟨i,j,rfl,rfl,G i j hc,q.one O (M i j B)⟩
 ·cases e
def hJ (h:dw X s (Gw g))(G:∀i j B,Is X.K B (g i j) (g' i j)):dw X s (rD X.K (zj (λ_ _=>true) g')):=by
 refine iN h λx y H Q q=>?_;obtain⟨B,dx,U,d,b,M,O,T,e,q⟩:=q;cases O<;>try (cases e;done)
 cases T<;>try (cases e;done)
 rename_i i j;simp only[zj,if_true]at e;cases e
 exact⟨i,j,rfl,rfl,q.one M (G i j B)⟩
abbrev Lv:D->D->OB:=zj (λ_ _=>true) λi j=>.int (i+j)
abbrev l8:D->D->OB:=zj (λ_ _=>true) λi j=>.int (i - j)
abbrev Lx:D->D->OB:=zj (λi j=>decide ((-18446744073709551616<i/\i<18446744073709551616)∨(-18446744073709551616<j/\j<18446744073709551616))) λi j=>.int (i*j)
abbrev cD:D->D->OB:=zj (λ_ j=>decide (0<j/\j<1073741824)) λi j=>.int (i / j)
abbrev bC:D->D->OB:=zj (λ_ j=>decide (0<j)) λi j=>.int (i % j)
abbrev NS:D->D->OB:=zj (λ_ _=>true) λi j=>.int (Builtin.bitAnd i j)
abbrev S7:D->D->OB:=zj (λ_ _=>true) λi j=>.bl (decide (i<j))
abbrev Q4:D->D->OB:=zj (λ_ _=>true) λi j=>.bl (decide (i<=j))
abbrev AF:D->D->OB:=zj (λ_ _=>true) λi j=>.bl (decide (j<i))
abbrev Q5:D->D->OB:=zj (λ_ _=>true) λi j=>.bl (decide (j<=i))
def NT:dw X (binaryOp .Add) (rD X.K Lv):=hJ KQ λ_ _ _=>.int _
def pE:dw X (binaryOp .Sub) (rD X.K l8):=hJ KR λ_ _ _=>.int _
def NU:dw X (binaryOp .Mult) (rD X.K Lx):=uI KS (λi j h=>by have h:=OH h;unfold GD;omega) λ_ _ _=>.int _
def bL:dw X (binaryOp .FloorDiv) (rD X.K cD):=uI GF (λi j h=>by have h:=OH h;unfold Nx;omega) λ_ _ _=>.int _
def bE:dw X (binaryOp .Mod) (rD X.K bC):=uI KU (λ_ _ h=>OH h) λ_ _ _=>.int _
def NV:dw X (binaryOp .BitAnd) (rD X.K NS):=hJ KW λ_ _ _=>.int _
def Q6:dw X (compareOp .Lt) (rD X.K S7):=hJ Ny λ_ _ _=>.bl _
def Q7:dw X (compareOp .LtE) (rD X.K Q4):=hJ Nz λ_ _ _=>.bl _
def zF:dw X (compareOp .Gt) (rD X.K AF):=hJ N6 λ_ _ _=>.bl _
def Q8:dw X (compareOp .GtE) (rD X.K Q5):=hJ N7 λ_ _ _=>.bl _
@[simp] noncomputable def MF (C:Str->Str->Bool)(g:Str->Str->D):D->D->OB
 |.str i,.str j=>if C i j=true then some (g i j,false)else none
 |_,_=>none
abbrev Hn:D->D->OB:=MF (λi j=>decide (i.length+j.length<=sizeLine)) λi j=>.str (i++j)
abbrev P2:D->D->OB:=MF (λ_ _=>true) λi j=>.bl (!decide (j.cps.toList<i.cps.toList))
def Ly:dw X (binaryOp .Add) (rD X.K Hn):=by
 refine iN zx λx y H Q q=>?_;obtain⟨B,dx,T,d,b,G,M,O,e,q⟩:=q;cases M<;>try (cases e;done)
 cases O<;>try (cases e;done)
 rename_i i j;simp only[Hn,MF]at e;split at e
 ·rename_i hc;cases e
  exact⟨i,j,rfl,rfl,OH hc,q.one G (.str _)⟩
 ·cases e
def NW:dw X (compareOp .LtE) (rD X.K P2):=by
 intro ae s σ H x y v u Q I G M q;obtain⟨B,dx,dy,d,b,O,T,U,e,q⟩:=q;cases T<;>try (cases e;done)
 cases U<;>try (cases e;done)
 rename_i i j;simp only[P2,MF,if_true]at e;cases e
 obtain⟨t,rfl⟩:=G;obtain⟨t',rfl⟩:=M;exact PySem.P.le_str ⟨.bl _,H,I,rfl,q.one O (.bl _)⟩
end
section
variable {X:Cx}{a b c e:Expr}{pos:Pos}{st:Stmt}{aE:List Stmt}
def fm:uE X [] bg:=sy.to G9 λ_ _ _ h=>Eb h
def am (h1:JS X st g)(h2:uE X aE h):uE X (st::aE) (ay g h):=sy.to (DB h1 h2) λ_ _ _ q=>Hb q
def bv (h1:JS X st g):uE X [st] g:=GA h1
def fK {c:Expr}{a b:List Stmt}{G:FT}{g h:FS}(hc:JT X c G)(ha:uE X a g)(hb:uE X b h):JS X (.If c a b pos) (dI G g h):=PS.to (Nn hc ha hb) λ_ _ _ q=>Lp q
def Ej (he:JE X e f):JS X (.Return (some e) pos) (aQ f):=PS.to (DC he) λ_ _ _ q=>Hd q
def mi (i:Nat)(G:PE X (.Name x p) (oB i):=by exact pv):JS X (.Return (some (.Name x p)) pos) (je i):=PS.to (DC G) λ_ _ _ q=>Ec q
def a8 (G:X.N.Nodup)(he:JE X e f)(hi:X.N[i]? = some x:=by rfl)(hx:D9 X.env.scope x:=by first|exact Or.inl rfl|exact Or.inr rfl)(hs:swapsWith e (some (.Name x p)) pos.line X.env=pure false:=by rfl)
  (hf:X.fn x=true∨X.env.scope.names.lookup x=some .local:=by first|exact .inl rfl|exact .inr rfl):JS X (.Assign [.Name x p] e pos) (aK i f):=PS.to (pz G hi hx he hs hf) λ_ _ _ q=>AE q
def Ho (G:X.N.Nodup)(he:JE X e f)(hi:X.N[i]? = some x:=by rfl)(hx:D9 X.env.scope x:=by first|exact Or.inl rfl|exact Or.inr rfl)(hs:swapsWith e (some (.Name x p)) pos.line X.env=pure false:=by rfl)
  (hf:X.fn x=true∨X.env.scope.names.lookup x=some .local:=by first|exact .inl rfl|exact .inr rfl):JS X (.Assign [.Name x p] e pos) (xh i f):=PS.to (pz G hi hx he hs hf) λ_ _ _ q=>Ed q
def Ek (n:Nat)(hp:PassesOwn (model X.prog X.w) X.A X.env X.xe)(hc:JT X c fc)(hb:uE X body g):JS X (.While c body [] pos) (fY fc g n):=PS.to (DE hp hc hb) λ_ _ _ q=>C0 q
def Lz (hp:PassesOwn (model X.prog X.w) X.A X.env X.xe)(hc:X.calm=true)(hi:JI X tg gp fi)(G:PG X tg t)(M:Hf X.K pj t)(hb:uE X body g)
  (hs:∀x,foldedSetIterable gp X.env x=pure x:=by intro _;rfl):JS X (.For tg gp body [] pos) (jz fi pj g):=PS.to (DF hp hc hi G hb hs) λ_ _ _ q=>Hg M q
def Hq (hp:PassesOwn (model X.prog X.w) X.A X.env X.xe)(hc:X.calm=true)(hi:PI X tg gp (NR X.K fi))(G:PG X tg t)(M:Hf X.K pj t)(hb:uE X body g)
  (hs:∀x,foldedSetIterable gp X.env x=pure x:=by intro _;rfl):JS X (.For tg gp body [] pos) (jK fi pj g):=PS.to (DF hp hc hi G hb hs) λ_ _ _ q=>Ee M q
def ga (he:JE X e f)(U:PE X (.Name x p) (oB i):=by exact pv)
  (G:attributeBase (.Name x p) "append" X.env (eval (.Name x p) X.env)=eval (.Name x p) X.env:=by rfl)
  (O:((backTo cx (starEach [e] X.env)).all (λx=>!x.1) && (backToKw cx (keywordEach [] X.env)).all (λx=>x.1.isSome)
   && decide ([e].length+([]:List Keyword).length+(if([]:List Keyword).isEmpty then 0 else 1)<30))=true:=by rfl)
  (M:(di.endLine == cx.line)=true:=by rfl) (hs:starEach [e] X.env=[(false,eval e X.env)]:=by rfl) (T:swapsWith (.Call (.Attribute (.Name x p) "append" di) [e] [] cx) none pos.line X.env=pure false:=by rfl):
  JS X (.Expr (.Call (.Attribute (.Name x p) "append" di) [e] [] cx) pos) (i6 i f):=by
 refine PS.to (A3 (A9 PySem.F.plainAttrs_list PySem.F.slot_list_append PySem.F.type_list_append nc U (gN he jy hs) G O M hs rfl) T) λE σ H q=>?_;obtain⟨a,us,h1,h2,k⟩:=He q;exact⟨_,h1,.inl ⟨rfl,us,fT.of h2⟩,k⟩
end
@[simp] noncomputable def aL (g:FS)(n k:Nat):LD->OB:=λds=>if ds.length=n then
 match g (ds.map (λd=>some (d,false))++List.replicate k none) with
 |some (.rt d b)=>some (d,b)
 |some (.nx _)=>some (.non,false)
 |_=>none
 else none
def Hr (K:Frag)(f:LD->OB):Sp:=λvs H Q _=>∃(B:Hp)(ds:LD)(d:D)(b:Bool),(bc B H/\Tb K B)/\IsL K B vs ds/\f ds=some (d,b)/\Fin K B H d b Q
def xn {K:Frag}{B H:Hp}{vs:LV}{ds:LD}{N:LS}(M:bc B H)(tb:Tb K B)(i:IsL K B vs ds):eB K B H B H (L2.jJ N vs) (ds.map (λd=>some (d,false))++List.replicate (N.length - vs.length) none):=by
 have G:∀(j:Nat)(d:D)(b:Bool),(ds.map (λd=>some (d,false))++List.replicate (N.length - vs.length) none:Env)[j]? = some (some (d,b))->b=false/\ds[j]? = some d:=λj d b e=>by
  by_cases hj:j<ds.length
  ·rw[getElem?_append_left (by simpa using hj),vA]at e;obtain⟨d',h1,h2⟩:=oY e;cases h2
   exact⟨rfl,h1⟩
  ·rw[List.getElem?_append_right (by simpa using Nat.not_lt.mp hj),getElem?_replicate]at e;split at e<;>cases e
 have O:∀a,¬own (L2.jJ N vs) (ds.map (λd=>some (d,false))++List.replicate (N.length - vs.length) none) a:=λa ⟨j,d,h,_⟩=>by
  obtain⟨z,_⟩:=G j d true h;cases z
 refine⟨M,tb,.refl M,?_,λj d e=>?_,λj d e=>?_,λj k a d e h=>?_⟩
 ·unfold L2.jJ;rw[uZ,uZ,vI,vI,length_replicate,length_replicate,i.length]
 ·obtain⟨_,T⟩:=G j d false e;obtain⟨v,h1,h2⟩:=i.get T;refine⟨v,?_,h2.mono λa o e=>by rw[cX (O a)];exact e⟩;unfold L2.jJ;have hj:j<vs.length:=(vV h1).1;rw[getElem?_append_left (by simpa using hj),vA,h1]<;>rfl
 ·obtain⟨z,_⟩:=G j d true e;cases z
 ·obtain⟨z,_⟩:=G j d true h;cases z
section
variable {P:Program}{w:World}{K:Frag}{mg:SV}{base:Heap}
def NX {x qual:Str}{st:Stmt}{f:Addr}{fd:FuncData}{N ps:LS}{k:Nat}{g:FS}(F:Mv K x qual st f fd)(S:FnScope N ps (aT st))
  (hb:∀(eP:Value)(A:Around)(outer:List PySem.Env)(s:Shared)(H:Hp)(E:XK),fg k (A.deeper (envOfC qual (aT st) s.heap.objs.size f eP))->uE (oC zi P w K mg base N qual (aT st) f eP A outer s H E).nox (cK st) g):
  su P w K mg base zi (k+1) f fd ps (Hr K (aL g ps.length (N.length - ps.length))):=by
 have len:∀vs H Q E,Hr K (aL g ps.length (N.length - ps.length)) vs H Q E->vs.length=ps.length:=λvs H Q E h=>by
  obtain⟨B,ds,d,b,M,i,e,q⟩:=h;unfold aL at e;split at e
  ·rename_i hl;rw[i.length];exact hl
  ·cases e
 refine F.ok S len λeP A outer s H vs Q E hr h=>⟨_,hb eP A outer s H E hr,?_⟩;have G:=len vs H Q E h;obtain⟨B,ds,d,b,M,i,e,q⟩:=h;unfold aL at e;rw[if_pos (by rw[←i.length];exact G)]at e;have O:=xn (N:=N) M.1 M.2 i;rw[G]at O;split at e
 ·rename_i d' b' T;cases e
  exact⟨B,H,_,_,⟨B,O⟩,T,λv H' N' U i' f'=>q v H' N' U i' f'⟩
 ·rename_i ρ' T;cases e
  exact⟨B,H,_,_,⟨B,O⟩,T,λσ' H' ⟨N',s'⟩=>q .non H' N' s'.ext .non (by simp)⟩
 ·cases e
structure Fn (P:Program)(w:World)(K:Frag)(mg:Str->Option Value)(base:Heap)(k:Nat)(x:Str)(f:List D->OB):Prop where
 ex:∃(ad:Addr)(fd:FuncData)(ps:List Str),su P w K mg base zi k ad fd ps (Hr K f)/\mg x=some (.ref ad)/\PySem.W.keepIn K (.ref ad)=true/\sC K fd ps []
end
def AG (F:Fn X.prog X.w X.K X.mg X.base k x f)(hr:fg k X.A)(ha:JA X (e::es) fa)(T:Gl X x:=by rfl)
  (G:(x == ("__debug__" : Str))=false:=by decide) (he:starEach (e::es) X.env=(false,eval e X.env)::starEach es X.env:=by rfl) (M:(backTo pos (starEach es X.env)).any (·.1)=false:=by rfl):
  JE X (.Call (.Name x p) (e::es) [] pos) (fA f fa):=by
 obtain⟨ad,fd,ps,U,hm,hk,hb⟩:=F.ex;refine PE.to (GI U hr T hm hk hb .nil NI ha G he M) λσ H Q q=>?_;obtain⟨B,ρ,d,b,s,r,e,q⟩:=q;obtain⟨ds,ex,e⟩:=oX e;exact⟨B,ρ,ds,s,r,ex,λvs H1 N1 O i1=>by
  show Hr X.K f (vs++[]) H1 Q _;rw[uQ];exact⟨N1,ds,d,b,⟨O.nh,r.tb.mono O.bn⟩,i1,e,q.into O⟩⟩
mutual
@[simp] def cU:D->D->Bool
 |.non,.non=>true
 |.bl a,.bl b=>a == b
 |.bl a,.int b=>decide ((if a then 1 else 0)=b)
 |.int a,.bl b=>decide (a=(if b then 1 else 0))
 |.int a,.int b=>decide (a=b)
 |.str a,.str b=>decide (a=b)
 |.tup xs,.tup ys=>fU xs ys
 |.lst xs,.lst ys=>fU xs ys
 |_,_=>false
@[simp] def fU:LD->LD->Bool
 |[],[]=>true
 |x::xs,y::ys=>cU x y && fU xs ys
 |_,_=>false
end
@[simp] def xo (a:Str)(b:Str):cU (.str a) (.str b)=decide (a=b):=by simp only[cU]
@[simp] noncomputable def aO:Nat->D->Bool
 |_,.non=>true
 |_,.bl _=>true
 |_,.int _=>true
 |_,.str _=>true
 |_,.ty _=>false
 |_,.dk _ _=>false
 |_,.dt _ _=>false
 |0,.tup _=>false
 |0,.lst _=>false
 |n+1,.tup ds=>ds.all (aO n)
 |n+1,.lst ds=>ds.all (aO n)
theorem xp:∀ {xs ys:LD},fU xs ys=true->xs.length=ys.length
 |[],[],_=>rfl
 |x::xs,y::ys,h=>by
  simp only[fU,vC]at h;rw[vE,vE,xp h.2]
 |[],_::_,h=>by simp[fU]at h
 |_::_,[],h=>by simp[fU]at h
def uJ (h:xs.length≠ys.length):fU xs ys=false:=by
 cases e:fU xs ys with
 |false=>rfl
 |true=>exact absurd (xp e) h
theorem j5 (f:Nat->Bool):∀ {xs ys:LD},xs.length=ys.length->(∀(j:Nat) x y,xs[j]? = some x->ys[j]? = some y->f j=cU x y)->(List.range xs.length).all f=fU xs ys
 |[],[],_,_=>by simp[fU]
 |x::xs,y::ys,hl,h=>by
  have e:=j5 (λj=>f (j+1)) (xs:=xs) (ys:=ys) (by simpa using hl) λj a b h1 h2=>h (j+1) a b (by simpa using h1) (by simpa using h2);rw[vE,List.range_succ_eq_map,all_cons,all_map,fU,←h 0 x y rfl rfl,←e];rfl
 |[],_::_,hl,_=>by simp at hl
 |_::_,[],hl,_=>by simp at hl
section
variable {X:Cx}{ae:AO}{σ:St}{H:Hp}{s:Shared}
def AH (I:Inv X ae σ H s)(h1:iY X.K H a vs)(h2:fT X.K H a ws):False:=by
 obtain⟨its,_,⟨o,e,c,_⟩,_⟩:=I.tuple h1;obtain⟨its',_,⟨o',O,G,M,_⟩,_⟩:=I.list h2;rw[e]at G;cases G;rw[c]at M;injection M with z;exact absurd z (by decide)
def AI (I:Inv X ae σ H s)(e:s.heap.get? a=some o)(d:o.data=.seq its n):(∀aN ob,H a≠some (.dK aN ob))/\∀aN,H a≠some (.dT aN):=by
 refine⟨λaN ob h=>?_,λaN h=>?_⟩
 ·obtain⟨_,_,_,_,_,o',es,M,G,_,d',_⟩:=(show bT X.prog X.w H s.heap a (.dK aN ob)from I.hok a _ h);rw[e]at G;cases G;rw[d]at d';cases d'
 ·obtain⟨_,_,_,_,o',es,M,G,_,d',_⟩:=(show bT X.prog X.w H s.heap a (.dT aN)from I.hok a _ h);rw[e]at G;cases G;rw[d]at d';cases d'
def xq (I:Inv X ae σ H s)(h1:iY X.K H a vs):(∀aN ob,H a≠some (.dK aN ob))/\∀aN,H a≠some (.dT aN):=by
 obtain⟨its,_,⟨o,e,c,n,d⟩,_⟩:=I.tuple h1;exact AI I e d
def xr (I:Inv X ae σ H s)(h1:fT X.K H a vs):(∀aN ob,H a≠some (.dK aN ob))/\∀aN,H a≠some (.dT aN):=by
 obtain⟨its,_,p,_⟩:=I.list h1;obtain⟨o,e,c,n,d⟩:=p.isList;exact AI I e d
def AJ (I:Inv X ae σ H s):∀(n:Nat){v:V}{d d':D},Is X.K H v d->Is X.K H v d'->aO n d=true->cU d d'=true:=by
 have G:∀ {p:D->Bool}(O:∀ {v:V}{d d':D},Is X.K H v d->Is X.K H v d'->p d=true->cU d d'=true) {vs:LV}{ds M:LD},IsL X.K H vs ds->IsL X.K H vs M->ds.all p=true->fU ds M=true:=by
  intro p O vs;induction vs with
  |nil=>intro ds M h h' _;cases h;cases h';simp[fU]
  |cons v vs T=>
   intro ds M h h' hp;cases h with
   |cons h1 h2=>
    cases h' with
    |cons h3 h4=>
     rw[all_cons,vC]at hp;rw[fU,O h1 h3 hp.1,T h2 h4 hp.2];rfl
 intro n;induction n with
 |zero=>
  intro v d d' h h' hp;cases h<;>cases h'<;>first|(simp[aO]at hp;done)|simp[cU]
 |succ n O=>
  intro v d d' h h' hp;cases h with
  |tup h1 h2=>
   cases h' with
   |tup h3 h4=>
    rw[I.tuple_inj h3 h1]at h4;rw[cU];exact G O h2 h4 (by simpa [aO]using hp)
   |lst h3 h4=>exact(AH I h1 h3).elim
   |dk h3 _ _=>exact((xq I h1).1 _ _ h3).elim
   |dt h3 _ _=>exact((xq I h1).2 _ h3).elim
  |lst h1 h2=>
   cases h' with
   |lst h3 h4=>
    rw[I.list_inj h3 h1]at h4;rw[cU];exact G O h2 h4 (by simpa [aO]using hp)
   |tup h3 h4=>exact(AH I h3 h1).elim
   |dk h3 _ _=>exact((xr I h1).1 _ _ h3).elim
   |dt h3 _ _=>exact((xr I h1).2 _ h3).elim
  |ty=>simp[aO]at hp
  |dk=>simp[aO]at hp
  |dt=>simp[aO]at hp
  |_=>cases h'<;>simp[cU]
def JG {α:Type}{p:α->Bool}{l:List α}{j:Nat}{x:α}(h:l.all p=true)(e:l[j]? = some x):p x=true:=uR h x (vL e)
def xu {A:Around}{p:D->Bool}(ih:∀ {O T:V}{d1 d2:D}{U u2:Value},p d1=true->p d2=true->Is X.K H O d1->Is X.K H T d2->aY O U->aY T u2->SeqAt.EqAt A s U u2 (cU d1 d2))
  {vs M:LV}{ds es:LD}{its G:LU}(i1:IsL X.K H vs ds) (i2:IsL X.K H M es) (r1:ba vs its) (r2:ba M G) (p1:ds.all p=true) (p2:es.all p=true):
  ∀j (h1:j<its.toArray.size) (h2:j<G.toArray.size),SeqAt.EqAt A s its.toArray[j] G.toArray[j] (cU (ds.getD j .non) (es.getD j .non)):=by
 intro j h1 h2;rw[vH]at h1 h2;have l1:=r1.length;have l2:=r2.length;have l3:=i1.length;have l4:=i2.length;have hv:j<vs.length:=by omega
 have hw:j<M.length:=by omega
 have hd:j<ds.length:=by omega
 have he:j<es.length:=by omega
 obtain⟨u,e1,q1⟩:=r1.get (i:=j) (x:=vs[j]) (by simp[hv]);obtain⟨u',e2,q2⟩:=r2.get (i:=j) (x:=M[j]) (by simp[hw]);obtain⟨v,e3,q3⟩:=i1.get (i:=j) (d:=ds[j]) (by simp[hd]);obtain⟨w,e4,q4⟩:=i2.get (i:=j) (d:=es[j]) (by simp[he]);have a1:its.toArray[j]=u:=by have z:=(vV e1).2;simpa using z
 have a2:G.toArray[j]=u':=by have z:=(vV e2).2;simpa using z
 have a3:vs[j]=v:=by simpa [hv]using e3
 have a4:M[j]=w:=by simpa [hw]using e4
 have a5:ds.getD j .non=ds[j]:=by simp[List.getD,hd]
 have a6:es.getD j .non=es[j]:=by simp[List.getD,he]
 rw[a1,a2,a5,a6];exact ih (JG p1 (j:=j) (by simp[hd])) (JG p2 (j:=j) (by simp[he])) (a3 ▸ q3) (a4 ▸ q4) q1 q2
def uK {xs ys:LD}(j:Nat)(x y:D)(h1:xs[j]? = some x)(h2:ys[j]? = some y):cU (xs.getD j .non) (ys.getD j .non)=cU x y:=by
 simp[List.getD,h1,h2]
abbrev Q9 (A:Around)(s:Shared)(G M:Value)(b:Bool):Prop:=SeqAt.RcAt A s G M b/\SeqAt.EqAt A s G M b/\SeqAt.RcNeAt A s G M (!b)
def AK {G M:Addr}(rc:SeqAt.RcAt A s (.ref G) (.ref M) b)(O:SeqAt.RcNeAt A s (.ref G) (.ref M) (!b))(h:G=M->b=true):Q9 A s (.ref G) (.ref M) b:=by
 refine⟨rc,?_,O⟩;by_cases ha:G=M
 ·subst ha;rw[h rfl];exact SeqAt.EqAt.same _
 ·exact SeqAt.EqAt.of_refs ha rc
def xw (T:aO 0 d1=true)(p2:aO 0 d2=true)(U:Is X.K H v1 d1)(M:Is X.K H v2 d2)(O:aY v1 u1)(G:aY v2 u2):Q9 A s u1 u2 (cU d1 d2):=by
 cases U with
 |non=>
  cases O
  cases M with
  |non=>cases G;rw[cU];exact⟨.none_none,.same _,.none_none⟩
  |bl b=>cases G;simp only[cU];exact⟨.none_bool _,.none_bool _,.none_bool _⟩
  |int b=>obtain⟨t',rfl⟩:=G;simp only[cU];exact⟨.none_int _ _,.none_int _ _,.none_int _ _⟩
  |str b=>obtain⟨t',rfl⟩:=G;simp only[cU];exact⟨.none_str _ _,.none_str _ _,.none_str _ _⟩
  |_=>simp at p2
 |bl a=>
  cases O
  cases M with
  |non=>cases G;simp only[cU];exact⟨.bool_none _,.bool_none _,.bool_none _⟩
  |bl b=>cases G;rw[cU];exact⟨.bool_bool _ _,.bool_bool _ _,.bool_bool _ _⟩
  |int b=>obtain⟨t',rfl⟩:=G;rw[cU,←beq_eq_decide_eq];exact⟨.bool_int _ _ _,.bool_int _ _ _,.bool_int _ _ _⟩
  |str b=>obtain⟨t',rfl⟩:=G;simp only[cU];exact⟨.bool_str _ _ _,.bool_str _ _ _,.bool_str _ _ _⟩
  |_=>simp at p2
 |int a=>
  obtain⟨t,rfl⟩:=O;cases M with
  |non=>cases G;simp only[cU];exact⟨.int_none _ _,.int_none _ _,.int_none _ _⟩
  |bl b=>cases G;rw[cU,←beq_eq_decide_eq];exact⟨.int_bool _ _ _,.int_bool _ _ _,.int_bool _ _ _⟩
  |int b=>obtain⟨t',rfl⟩:=G;rw[cU,←beq_eq_decide_eq];exact⟨.int_int _ _ _ _,.int_int _ _ _ _,.int_int _ _ _ _⟩
  |str b=>obtain⟨t',rfl⟩:=G;simp only[cU];exact⟨.int_str _ _ _ _,.int_str _ _ _ _,.int_str _ _ _ _⟩
  |_=>simp at p2
 |str a=>
  obtain⟨t,rfl⟩:=O;cases M with
  |non=>cases G;simp only[cU];exact⟨.str_none _ _,.str_none _ _,.str_none _ _⟩
  |bl b=>cases G;simp only[cU];exact⟨.str_bool _ _ _,.str_bool _ _ _,.str_bool _ _ _⟩
  |int b=>obtain⟨t',rfl⟩:=G;simp only[cU];exact⟨.str_int _ _ _ _,.str_int _ _ _ _,.str_int _ _ _ _⟩
  |str b=>obtain⟨t',rfl⟩:=G;rw[cU,←beq_eq_decide_eq];exact⟨.str_str _ _ _ _,.str_str _ _ _ _,.str_str _ _ _ _⟩
  |_=>simp at p2
 |_=>simp at T
def JH (I:Inv X ae σ H s):∀(n:Nat){A:Around}{v1 v2:V}{d1 d2:D}{u1 u2:Value},A.units+n<cLine->aO n d1=true->aO n d2=true->Is X.K H v1 d1->Is X.K H v2 d2->aY v1 u1->aY v2 u2->Q9 A s u1 u2 (cU d1 d2):=by
 intro n;induction n with
 |zero=>exact λ_ p1 p2 i1 i2 T r2=>xw p1 p2 i1 i2 T r2
 |succ n ih=>
  intro A v1 v2 d1 d2 u1 u2 hu p1 p2 i1 i2 T r2;have G:A.units<cLine:=by omega
  have Ts:∀ {v1 v2:V}{d1 d2:D}{u1 u2:Value},aO n d1=true->aO n d2=true->Is X.K H v1 d1->Is X.K H v2 d2->aY v1 u1->aY v2 u2->SeqAt.EqAt A.in1 s u1 u2 (cU d1 d2):=λp1 p2 i1 i2 T r2=>(ih (A:=A.in1) (by show A.units+1+n<cLine;omega) p1 p2 i1 i2 T r2).2.1;by_cases f2:aO 0 d2=true
  ·by_cases f1:aO 0 d1=true
   ·exact xw f1 f2 i1 i2 T r2
   ·cases i1 with
    |tup h1 k1=>
     cases T
     obtain⟨its,U,M,z1⟩:=I.tuple h1;cases i2 with
     |non=>cases r2;simp only[cU];exact⟨.tuple_none M G,.tuple_none M G,.tuple_none M G⟩
     |bl=>cases r2;simp only[cU];exact⟨.tuple_bool _ M G,.tuple_bool _ M G,.tuple_bool _ M G⟩
     |int=>obtain⟨t,rfl⟩:=r2;simp only[cU];exact⟨.tuple_int _ _ M G,.tuple_int _ _ M G,.tuple_int _ _ M G⟩
     |str=>obtain⟨t,rfl⟩:=r2;simp only[cU];exact⟨.tuple_str _ _ M G,.tuple_str _ _ M G,.tuple_str _ _ M G⟩
     |_=>simp at f2
    |lst h1 k1=>
     cases T
     obtain⟨its,U,M,z1⟩:=I.list h1;replace M:=M.isList;cases i2 with
     |non=>cases r2;simp only[cU];exact⟨.list_none M G,.list_none M G,.list_none M G⟩
     |bl=>cases r2;simp only[cU];exact⟨.list_bool _ M G,.list_bool _ M G,.list_bool _ M G⟩
     |int=>obtain⟨t,rfl⟩:=r2;simp only[cU];exact⟨.list_int _ _ M G,.list_int _ _ M G,.list_int _ _ M G⟩
     |str=>obtain⟨t,rfl⟩:=r2;simp only[cU];exact⟨.list_str _ _ M G,.list_str _ _ M G,.list_str _ _ M G⟩
     |_=>simp at f2
    |_=>simp at f1 p1
  ·cases i2 with
   |tup h2 k2=>
    cases r2
    obtain⟨D7,OS,O,z2⟩:=I.tuple h2;cases i1 with
    |tup h1 k1=>
     cases T
     obtain⟨its,U,M,z1⟩:=I.tuple h1;rename_i a2 ws es a1 vs ds;have he:=xu (A:=A.in1) (p:=aO n) Ts k1 k2 U OS (by simpa using p1) (by simpa using p2);have OT:((List.range (min its.toArray.size D7.toArray.size)).all (λj=>cU (ds.getD j .non) (es.getD j .non)) && its.toArray.size == D7.toArray.size)=cU (.tup ds) (.tup es):=by
      rw[cU,vH,vH,←U.length,←OS.length,k1.length,k2.length];by_cases hl:ds.length=es.length
      ·rw[←hl,Nat.min_self,beq_self_eq_true,Bool.and_true];exact j5 _ hl λj x y e1 e2=>uK j x y e1 e2
      ·rw[uJ hl,beq_eq_false_iff_ne.mpr hl,Bool.and_false]
     have rc:=SeqAt.RcAt.tuples M O G he;have rn:=SeqAt.RcNeAt.tuples M O G he;rw[OT]at rc rn;exact AK rc rn λe=>by subst e;exact AJ I (n+1) (.tup h1 k1) (.tup h2 k2) p1
    |lst h1 k1=>cases T;obtain⟨its,U,M,z1⟩:=I.list h1;simp only[cU];exact⟨.list_tuple M.isList O G,.list_tuple M.isList O G,.list_tuple M.isList O G⟩
    |non=>cases T;simp only[cU];exact⟨.none_tuple O G,.none_tuple O G,.none_tuple O G⟩
    |bl=>cases T;simp only[cU];exact⟨.bool_tuple _ O G,.bool_tuple _ O G,.bool_tuple _ O G⟩
    |int=>obtain⟨t,rfl⟩:=T;simp only[cU];exact⟨.int_tuple _ _ O G,.int_tuple _ _ O G,.int_tuple _ _ O G⟩
    |str=>obtain⟨t,rfl⟩:=T;simp only[cU];exact⟨.str_tuple _ _ O G,.str_tuple _ _ O G,.str_tuple _ _ O G⟩
    |_=>simp at p1
   |lst h2 k2=>
    cases r2
    obtain⟨D7,OS,O,z2⟩:=I.list h2;replace O:=O.isList;cases i1 with
    |lst h1 k1=>
     cases T
     obtain⟨its,U,M,z1⟩:=I.list h1;replace M:=M.isList;rename_i a2 ws es a1 vs ds;have he:=xu (A:=A.in1) (p:=aO n) Ts k1 k2 U OS (by simpa using p1) (by simpa using p2);have both:SeqAt.RcAt A s (.ref a1) (.ref a2) (cU (.lst ds) (.lst es))/\SeqAt.RcNeAt A s (.ref a1) (.ref a2) (!cU (.lst ds) (.lst es)):=by
      have hz:its.toArray.size=ds.length/\D7.toArray.size=es.length:=by rw[vH,vH,←U.length,←OS.length,k1.length,k2.length];exact⟨rfl,rfl⟩
      by_cases hl:ds.length=es.length
      ·have OT:(List.range its.toArray.size).all (λj=>cU (ds.getD j .non) (es.getD j .non))=cU (.lst ds) (.lst es):=by
        rw[cU,hz.1];exact j5 _ hl λj x y e1 e2=>uK j x y e1 e2
       have hs:=(hz.1.trans hl).trans hz.2.symm;have rc:=SeqAt.RcAt.lists M O hs G he;have rn:=SeqAt.RcNeAt.lists M O hs G he;rw[OT]at rc rn;exact⟨rc,rn⟩
      ·have hs:(its.toArray.size != D7.toArray.size)=true:=by rw[hz.1,hz.2];exact bne_iff_ne.mpr hl
       rw[cU,uJ hl];exact⟨.lists_lengths M O hs G,.lists_lengths M O hs G⟩
     exact AK both.1 both.2 λe=>by subst e;exact AJ I (n+1) (.lst h1 k1) (.lst h2 k2) p1
    |tup h1 k1=>cases T;obtain⟨its,U,M,z1⟩:=I.tuple h1;simp only[cU];exact⟨.tuple_list M O G,.tuple_list M O G,.tuple_list M O G⟩
    |non=>cases T;simp only[cU];exact⟨.none_list O G,.none_list O G,.none_list O G⟩
    |bl=>cases T;simp only[cU];exact⟨.bool_list _ O G,.bool_list _ O G,.bool_list _ O G⟩
    |int=>obtain⟨t,rfl⟩:=T;simp only[cU];exact⟨.int_list _ _ O G,.int_list _ _ O G,.int_list _ _ O G⟩
    |str=>obtain⟨t,rfl⟩:=T;simp only[cU];exact⟨.str_list _ _ O G,.str_list _ _ O G,.str_list _ _ O G⟩
    |_=>simp at p1
   |_=>simp at f2 p2
@[simp] def dJ:D->D->OB:=λx y=>if aO 40 x=true/\aO 40 y=true then some (.bl (cU x y),false)else none
@[simp] def uL:D->D->OB:=λx y=>if aO 40 x=true/\aO 40 y=true then some (.bl (!cU x y),false)else none
def cF (hu:X.A.units+40<cLine):dw X (compareOp .Eq) (rD X.K dJ):=by
 intro ae s σ H x y v u Q I M O q;obtain⟨B,dx,dy,d,b,G,T,U,e,q⟩:=q;unfold dJ at e;split at e
 ·rename_i hp;cases e
  exact(JH I 40 hu hp.1 hp.2 (T.mono G) (U.mono G) M O).1 _ _ _ _ ⟨.bl _,H,I,rfl,q.one G (.bl _)⟩
 ·cases e
def zG (hu:X.A.units+40<cLine):dw X (compareOp .NotEq) (rD X.K uL):=by
 intro ae s σ H x y v u Q I M O q;obtain⟨B,dx,dy,d,b,G,T,U,e,q⟩:=q;unfold uL at e;split at e
 ·rename_i hp;cases e
  exact(JH I 40 hu hp.1 hp.2 (T.mono G) (U.mono G) M O).2.2 _ _ _ _ ⟨.bl _,H,I,rfl,q.one G (.bl _)⟩
 ·cases e
end
section
variable {X:Cx}{a b e:Expr}{pos:Pos}
def AL {K:Frag}{H:Hp}{vs:LV}{ds:LD}{i:Int}{d:D}(h:IsL K H vs ds)(e:nR ds i=some d):∃v,nR vs i=some v/\Is K H v d:=by
 unfold nR at e ⊢;rw[h.length];cases q:Cs ds.length i with
 |none=>rw[q]at e;cases e
 |some j=>rw[q]at e;exact h.get e
@[simp] def bB:D->D->OB
 |.lst ds,.int i=>(nR ds i).map λd=>(d,false)
 |.tup ds,.int i=>(nR ds i).map λd=>(d,false)
 |.str z,.int i=>if z.length<=sizeLine then (nR z.cps.toList i).map λc=>(.str ⟨#[c]⟩,false)else none
 |_,_=>none
def QA:Gx X (rD X.K bB):=by
 intro G M ae s σ H x y v u Q I U ry q hs;obtain⟨B,dx,dy,d,b,O,ix,iy,e,q⟩:=q;cases ix<;>try (cases e;done)
 all_goals (cases iy<;>try (cases e;done))
 ·simp only[bB]at e;split at e
  ·rename_i hz;obtain⟨c,T,e2⟩:=oY e;cases e2
   exact z8 G M ae s σ H _ _ v u Q I U ry ⟨_,_,c,rfl,rfl,hz,T,q.one O (.str _)⟩ hs
  ·cases e
 ·rename_i h hl i;simp only[bB]at e;obtain⟨c,T,e2⟩:=oY e;cases e2
  obtain⟨w,h1,h2⟩:=AL hl T;exact p5 G M ae s σ H _ _ v u Q I U ry ⟨_,_,_,w,rfl,rfl,bz O h,h1,q.one O h2⟩ hs
 ·rename_i h hl i;simp only[bB]at e;obtain⟨c,T,e2⟩:=oY e;cases e2
  obtain⟨w,h1,h2⟩:=AL hl T;exact GQ G M ae s σ H _ _ v u Q I U ry ⟨_,_,_,w,rfl,rfl,O.seq h,h1,q.one O h2⟩ hs
def aP (ha:JE X a fa)(hb:JE X b fb)(hs:uw b:=by intro _ _;rfl):JE X (.Subscript a b pos) (f2 bB fa fb):=PE.to (J8 QA ha hb hs) λ_ _ _ h=>GY h
abbrev FO:=Env->Option OI
def U7 (K:Frag)(f:FO):TO:=λσ H Q=>∃(B:Hp)(ρ:Env)(o:OI),bc B H/\fR K B σ ρ/\f ρ=some o/\∀H',bc H H'->Q o H'
abbrev JO (X:Cx)(e:Option Expr)(f:FO):Prop:=PO X e (U7 X.K f)
@[simp] noncomputable def cY:FO:=λ_=>some none
@[simp] noncomputable def cM (f:FE):FO:=λρ=>match f ρ with|some (.int i,_)=>some (some i)|_=>none
def dD:JO X none cY:=λae s σ H Q I h=>GL ae s σ H Q I (by
 obtain⟨B,ρ,o,G,r,e,q⟩:=h;cases e
 exact q H (.refl H))
def dE (h:JE X e f):JO X (some e) (cM f):=λae s σ H Q I q=>A7 h ae s σ H Q I (by
 obtain⟨B,ρ,o,G,r,e,q⟩:=q;unfold cM at e;split at e
 ·rename_i i b' M;cases e
  refine⟨B,ρ,_,_,G,r,M,λv O N1 T U _=>?_⟩;cases U
  exact⟨i,rfl,q O T.hh⟩
 ·cases e)
def i7 (ds:LD)(lo hi:OI):LD:=(ds.drop (HT.eD ds.length 0 lo)).take (HT.eD ds.length ds.length hi - HT.eD ds.length 0 lo)
def uM {K:Frag}{H:Hp}{vs:LV}{ds:LD}{lo hi:OI}(h:IsL K H vs ds):IsL K H (rV vs lo hi) (i7 ds lo hi):=by
 unfold rV i7;rw[h.length];exact(h.drop _).take _
def bW.to (h:bW X f r)(k:∀xs H Q,r' xs H Q->r xs H Q):bW X f r':=λae s σ H xs us Q I rs q=>h ae s σ H xs us Q I rs (k xs H Q q)
variable {es:QD}{x:Str}{p:Pos}{id T:String}
def bp (hc:bW X (.builtin id) (AD X.K f))(hm:X.mg x=none)(hv:bootBuiltins x=some (.builtin id))(ha:JA X (e::es) fa)(O:Gl X x:=by rfl)(hn:x ≠ "__name__":=by decide)(G:(x == ("__debug__" : Str))=false:=by decide)
  (he:starEach (e::es) X.env=(false,eval e X.env)::starEach es X.env:=by rfl) (M:(backTo pos (starEach es X.env)).any (·.1)=false:=by rfl):JE X (.Call (.Name x p) (e::es) [] pos) (fA f fa):=PE.to (wV hc O hm hv ha hn G he M) λ_ _ _ h=>GZ h
def gS (hc:bW X (.type T) (AD X.K f))(hm:X.mg x=none)(hv:bootBuiltins x=some (.type T))(ha:JA X (e::es) fa)(O:Gl X x:=by rfl)(hn:x ≠ "__name__":=by decide)(G:(x == ("__debug__" : Str))=false:=by decide)
  (he:starEach (e::es) X.env=(false,eval e X.env)::starEach es X.env:=by rfl) (M:(backTo pos (starEach es X.env)).any (·.1)=false:=by rfl):JE X (.Call (.Name x p) (e::es) [] pos) (fA f fa):=PE.to (sK hc O hm hv ha hn G he M) λ_ _ _ h=>GZ h
@[simp] noncomputable def df:LD->OB
 |[.lst ds]=>some (.int ds.length,false)
 |[.tup ds]=>some (.int ds.length,false)
 |[.str z]=>if z.length<=sizeLine then some (.int z.length,false)else none
 |_=>none
def eU:bW X (.builtin "len") (AD X.K df):=by
 refine bW.to (bW.or uz u0) λxs H Q q=>?_;obtain⟨B,ds,d,b,G,i,e,q⟩:=q;cases i with
 |nil=>simp[df]at e
 |cons M O=>
  cases O with
  |cons _ _=>cases M<;>simp[df]at e
  |nil=>
   cases M<;>try (simp[df]at e;done)
   ·simp only[df]at e;split at e
    ·rename_i hz;cases e
     exact .inr ⟨_,rfl,hz,q.one G (.int _)⟩
    ·cases e
   ·rename_i h hl;simp only[df]at e;cases e
    refine .inl ⟨_,_,rfl,.inr (bz G h),?_⟩;rw[hl.length];exact q.one G (.int _)
   ·rename_i h hl;simp only[df]at e;cases e
    refine .inl ⟨_,_,rfl,.inl (G.seq h),?_⟩;rw[hl.length];exact q.one G (.int _)
def NY (hm:X.mg x=none)(hv:bootBuiltins x=some (.type n))(G:Gl X x:=by rfl)(hn:x ≠ "__name__":=by decide)(hd:(x == ("__debug__" : Str))=false:=by decide):JE X (.Name x pos) (fC (.ty n)) :=
 PE.to (G7 G hm hv (v:=.ty n) rfl hn hd) λ_ _ _ h=>C2 (λ_=>.ty n) h
end
def C3 (hr:fg k A):A.units+40<cLine:=by have:=hr.un;omega
section
variable {X:Cx}{a b e:Expr}{pos:Pos}{x:Str}{p:Pos}
def xx (h:∃u v,X.mg x=some u/\aY v u/\∀B,Is X.K B v d)(G:Gl X x:=by rfl)(hd:(x == ("__debug__" : Str))=false:=by decide):JE X (.Name x pos) (fC d):=by
 obtain⟨u,v,hm,r,i⟩:=h;exact Hk G hm r i hd
@[simp] noncomputable def AM:D->D->OB
 |.int i,.int j=>some (.int (i+j),false)
 |.str i,.str j=>if i.length+j.length<=sizeLine then some (.str (i++j),false)else none
 |_,_=>none
def Hs:dw X (binaryOp .Add) (rD X.K AM):=by
 refine iN (r:=rD X.K (D2 Lv Hn)) (nn NT Ly) λx y H Q q=>?_;obtain⟨B,dx,G,d,b,M,O,T,e,q⟩:=q;refine⟨B,dx,G,d,b,M,O,T,?_,q⟩;cases dx<;>try (cases e;done)
 all_goals (cases G<;>try (cases e;done))
 all_goals (simp[AM]at e;simp[D2,Lv,Hn,zj,MF,e])
@[simp] def ft:D->D->OB:=Lx
def cG:dw X (binaryOp .Mult) (rD X.K ft):=NU
@[simp] def D3:D->D->OB:=S7
def sW:dw X (compareOp .Lt) (rD X.K D3):=Q6
@[simp] noncomputable def zk:D->D->OB
 |.int i,.int j=>some (.bl (decide (i<=j)),false)
 |.str i,.str j=>some (.bl (!decide (j.cps.toList<i.cps.toList)),false)
 |_,_=>none
def nU:dw X (compareOp .LtE) (rD X.K zk):=by
 refine iN (r:=rD X.K (D2 Q4 P2)) (nn Q7 NW) λx y H Q q=>?_;obtain⟨B,dx,G,d,b,M,O,T,e,q⟩:=q;refine⟨B,dx,G,d,b,M,O,T,?_,q⟩;cases dx<;>try (cases e;done)
 all_goals (cases G<;>try (cases e;done))
 all_goals (simp[zk]at e;simp[D2,Q4,P2,zj,MF,e])
@[simp] noncomputable def vc:D->OB
 |.int i=>some (.int (-i),false)
 |_=>none
def El:Nw X (unaryOp .USub) (Q2 X.K vc):=by
 intro ae s σ H x v Q I G q;obtain⟨B,dx,d,b,M,O,e,q⟩:=q;cases O<;>try (simp[vc]at e;done)
 simp only[vc]at e;cases e
 exact DG ae s σ H _ v Q I G ⟨_,rfl,q.one M (.int _)⟩
@[simp] noncomputable def C4:D->D->Option Bool
 |.non,.non=>some true
 |_,.non=>some false
 |.bl a,.bl b=>some (a == b)
 |_,.bl _=>some false
 |_,_=>none
@[simp] def D4:D->D->OB:=λx y=>(C4 x y).map λb=>(.bl b,false)
@[simp] def lA:D->D->OB:=λx y=>(C4 x y).map λb=>(.bl (!b),false)
def AN {K:Frag}{B:Hp}{x y:V}{v u:Value}{dx G:D}{k:Bool}(O:Is K B x dx)(T:Is K B y G)(M:aY x v)(U:aY y u)(e:C4 dx G=some k):plainIs v u=true/\(v == u)=k:=by
 cases T<;>(first|(cases dx<;>simp[C4]at e;done)|skip)
 all_goals (cases O)
 all_goals (first|(obtain⟨t,rfl⟩:=M)|cases M)
 all_goals (cases U)
 all_goals (simp only[C4,Option.some.injEq]at e;subst e)
 all_goals (first|exact⟨rfl,rfl⟩|skip)
 all_goals (rename_i c d;cases c<;>cases d<;>exact⟨rfl,rfl⟩)
def Em:dw X (compareOp .Is) (rD X.K D4):=by
 intro ae s σ H x y v u Q I G M q;obtain⟨B,dx,dy,d,b,O,T,U,e,q⟩:=q;obtain⟨k,ek,e⟩:=oY e;cases e
 obtain⟨h1,h2⟩:=AN T U G M ek;refine wpAny_is_plain h1 ⟨.bl k,H,I,by rw[h2];rfl,q.one O (.bl _)⟩
def ve:dw X (compareOp .IsNot) (rD X.K lA):=by
 intro ae s σ H x y v u Q I G M q;obtain⟨B,dx,dy,d,b,O,T,U,e,q⟩:=q;obtain⟨k,ek,e⟩:=oY e;cases e
 obtain⟨h1,h2⟩:=AN T U G M ek;refine wpAny_isNot_plain h1 ⟨.bl (!k),H,I,by rw[h2];rfl,q.one O (.bl _)⟩
@[simp] noncomputable def gy:D->Bool
 |.non=>true|.bl _=>true|.int _=>true|.str _=>true
 |_=>false
noncomputable def Gz (x:D)(ds:LD):Bool:=ds.any λy=>cU y x
@[simp] noncomputable def jf:D->Option LD
 |.lst ds=>some ds
 |.tup ds=>some ds
 |_=>none
@[simp] def zl:D->D->OB:=λx y=>(jf y).bind λds=>if gy x=true/\ds.all gy=true then some (.bl (Gz x ds),false)else none
@[simp] def dA:D->D->OB:=λx y=>(jf y).bind λds=>if gy x=true/\ds.all gy=true then some (.bl (!Gz x ds),false)else none
def pF {K:Frag}{B:Hp}{v:V}{d:D}(i:Is K B v d)(h:gy d=true):lg v=true:=by
 cases i<;>first|rfl|(simp[gy]at h)
def QB {K:Frag}{B:Hp}{v w:V}{d e:D}(i:Is K B v d)(j:Is K B w e)(h:gy d=true)(h':gy e=true):Gy v w=cU d e:=by
 cases i<;>(first|(simp[gy]at h;done)|skip)
 all_goals (cases j<;>(first|(simp[gy]at h';done)|skip))
 all_goals (simp only[Gy,cU,beq_eq_decide_eq])
theorem xy {K:Frag}{B:Hp}:∀ {vs:LV}{ds:LD},IsL K B vs ds->ds.all gy=true->vs.all lg=true
 |_,_,.nil,_=>rfl
 |_,_,.cons i t,h=>by
  rw[all_cons,vC]at h;rw[all_cons,pF i h.1,xy t h.2];rfl
theorem En {K:Frag}{B:Hp}{v:V}{d:D}(j:Is K B v d)(hd:gy d=true):∀ {vs:LV}{ds:LD},IsL K B vs ds->ds.all gy=true->P1 v vs=Gz d ds
 |_,_,.nil,_=>rfl
 |_,_,.cons i t,h=>by
  rw[all_cons,vC]at h;have e:=En j hd t h.2;unfold P1 Gz at *;rw[any_cons,any_cons,e,QB i j h.1 hd]
def sX:dw X (compareOp .In) (rD X.K zl):=by
 refine iN Ct λx y H Q q=>?_;obtain⟨B,dx,T,d,b,G,M,O,e,q⟩:=q;obtain⟨ds,es,e⟩:=oX e;split at e
 ·rename_i hf;cases e
  cases O<;>simp only[jf]at es<;>try (cases es;done)
  ·rename_i h hl;cases es
   exact⟨_,_,rfl,.inr (bz G h),pF M hf.1,xy hl hf.2,by rw[if_neg (by decide),En M hf.1 hl hf.2];exact q.one G (.bl _)⟩
  ·rename_i h hl;cases es
   exact⟨_,_,rfl,.inl (G.seq h),pF M hf.1,xy hl hf.2,by rw[if_neg (by decide),En M hf.1 hl hf.2];exact q.one G (.bl _)⟩
 ·cases e
def jT:dw X (compareOp .NotIn) (rD X.K dA):=by
 refine iN uy λx y H Q q=>?_;obtain⟨B,dx,T,d,b,G,M,O,e,q⟩:=q;obtain⟨ds,es,e⟩:=oX e;split at e
 ·rename_i hf;cases e
  cases O<;>simp only[jf]at es<;>try (cases es;done)
  ·rename_i h hl;cases es
   exact⟨_,_,rfl,.inr (bz G h),pF M hf.1,xy hl hf.2,by rw[if_pos rfl,En M hf.1 hl hf.2];exact q.one G (.bl _)⟩
  ·rename_i h hl;cases es
   exact⟨_,_,rfl,.inl (G.seq h),pF M hf.1,xy hl hf.2,by rw[if_pos rfl,En M hf.1 hl hf.2];exact q.one G (.bl _)⟩
 ·cases e
def eV:bootBuiltins "len" = some (.builtin "len"):=PySem.boot_len
def vg:bootBuiltins "isinstance" = some (.builtin "isinstance"):=by decide +kernel
def NZ:bootBuiltins "max" = some (.builtin "max"):=by decide +kernel
def Oa:bootBuiltins "min" = some (.builtin "min"):=by decide +kernel
def JJ:bootBuiltins "all" = some (.builtin "all"):=by decide +kernel
def Ob:bootBuiltins "int" = some (.type "int"):=by decide +kernel
def L0:bootBuiltins "bool" = some (.type "bool"):=by decide +kernel
def vh:bootBuiltins "list" = some (.type "list"):=by decide +kernel
def Ht:bootBuiltins "tuple" = some (.type "tuple"):=by decide +kernel
@[simp] noncomputable def Hu:LD->OB
 |[.int i,.int j]=>some (.int (if j > i then j else i),false)
 |_=>none
@[simp] noncomputable def Hv:LD->OB
 |[.int i,.int j]=>some (.int (if j<i then j else i),false)
 |_=>none
def xz {K:Frag}{B:Hp}{xs:LV}{i j:Int}(h:IsL K B xs [.int i,.int j]):xs=[.int i,.int j]:=by
 cases h with
 |cons h1 h2=>cases h1;cases h2 with|cons h3 h4=>cases h3;cases h4;rfl
def Oc (hc:X.calm=true:=by rfl):bW X (.builtin "max") (AD X.K Hu):=by
 refine bW.to (Cn hc) λxs H Q q=>?_;obtain⟨B,ds,d,b,G,i,e,q⟩:=q;match ds,e with
 |[.int M,.int O],e=>simp only[Hu]at e;cases e;exact⟨M,O,xz i,q.one G (.int _)⟩
def Od (hc:X.calm=true:=by rfl):bW X (.builtin "min") (AD X.K Hv):=by
 refine bW.to (Co hc) λxs H Q q=>?_;obtain⟨B,ds,d,b,G,i,e,q⟩:=q;match ds,e with
 |[.int M,.int O],e=>simp only[Hv]at e;cases e;exact⟨M,O,xz i,q.one G (.int _)⟩
@[simp] noncomputable def lB:D->String
 |.non=>"NoneType" | .bl _=>"bool" | .int _=>"int" | .str _=>"str" | .ty _=>"type" | .tup _=>"tuple" | .lst _=>"list" | .dk _ _=>"dict" | .dt _ _=>"dict"
@[simp] noncomputable def QC:D->Bool
 |.ty _=>true
 |_=>false
@[simp] noncomputable def AQ (t n:String):OB :=
 if n = "int" then some (.bl (t == "int" || t == "bool"),false)else if n = "bool" then some (.bl (t == "bool"),false)else if n = "str" then some (.bl (t == "str"),false)
 else if n = "list" then some (.bl (t == "list"),false)else if n = "tuple" then some (.bl (t == "tuple"),false)else none
@[simp] def jU:LD->OB
 |[d,.ty n]=>if QC d=true then none else AQ (lB d) n
 |_=>none
def Hw {ae:AO}{σ:St}{H:Hp}{s:Shared}{A:Around}{E:QV}{Q:QV}{c:Value}{b:Bool}{v:V}{d:D}{u:Value}(I:Inv X ae σ H s)(i:Is X.K H v d)(hd:∀n,d≠.ty n)(G:aY v u)(e:PySem.W.kitOne X.K (.type (lB d)) c=some b)(h:∀tk,Q (.bool b) { s with toks:=tk }):
  wpAny (model X.prog X.w) A (call (.builtin "isinstance") [u,c]) Q E s:=by
 cases i with
 |non=>exact gR I G .non e h
 |bl y=>exact gR I G (.bl y) e h
 |int y=>exact gR I G (.int y) e h
 |str y=>exact gR I G (.str y) e h
 |ty n=>exact absurd rfl (hd n)
 |dk h1 _ _=>exact gR I G (.dK h1) e h
 |dt h1 _ _=>exact gR I G (.dT h1) e h
 |tup M _=>
  cases G
  obtain⟨its,_,⟨o,h1,h2,_⟩,_⟩:=I.tuple M;exact kia_one PySem.W.kitx_tuple I.kIn ⟨o,h1,h2⟩ e (λz=>nomatch z) h
 |lst hl _=>
  cases G
  obtain⟨its,_,⟨o,n,h1,h2,_⟩,_⟩:=I.list hl;exact kia_one PySem.W.kitx_list I.kIn ⟨o,h1,h2⟩ e (λz=>nomatch z) h
def L5 (K:Frag)(d:D)(hd:∀n,d≠.ty n):
  PySem.W.kitOne K (.type (lB d)) (.type "int")=some (lB d == "int" || lB d == "bool")/\PySem.W.kitOne K (.type (lB d)) (.type "bool")=some (lB d == "bool")/\PySem.W.kitOne K (.type (lB d)) (.type "str")=some (lB d == "str") /\
   PySem.W.kitOne K (.type (lB d)) (.type "list")=some (lB d == "list")/\PySem.W.kitOne K (.type (lB d)) (.type "tuple")=some (lB d == "tuple"):=by
 cases d<;>(first|exact absurd rfl (hd _)|skip)
 all_goals (simp only[lB];refine⟨?_,?_,?_,?_,?_⟩<;>kernel_rfl)
def vi:bW X (.builtin "isinstance") (AD X.K jU):=by
 intro ae s σ H xs us Q I rs q;obtain⟨B,ds,d,b,G,i,e,q⟩:=q;cases i with
 |nil=>cases e
 |cons M i=>cases i with
 |nil=>cases e
 |cons O i=>
  cases O<;>try (cases e;done)
  cases i<;>try (cases e;done)
  rename_i dx n;obtain⟨T,u2,rfl,U,r2⟩:=DJ rs;cases r2
  simp only[jU]at e;split at e
  ·cases e
  ·rename_i ht;have hd:∀n,dx≠.ty n:=λn z=>by subst z;exact ht rfl
   obtain⟨k1,k2,k3,k4,k5⟩:=L5 X.K dx hd;have iB:∀ {k:Bool},PySem.W.kitOne X.K (.type (lB dx)) (.type n)=some k->Fin X.K B H (.bl k) false Q->wq X (call (.builtin "isinstance") [T,.type n]) (EP X ae σ Q) X.xe s:=λ{k} hk q=>
    Hw I (M.mono G) hd U hk λtk=>⟨.bl k,H,I.tok tk,rfl,q.one G (.bl k)⟩
   unfold AQ at e;split at e
   ·rename_i z;subst z;cases e;exact iB k1 q
   split at e
   ·rename_i z;subst z;cases e;exact iB k2 q
   split at e
   ·rename_i z;subst z;cases e;exact iB k3 q
   split at e
   ·rename_i z;subst z;cases e;exact iB k4 q
   split at e
   ·rename_i z;subst z;cases e;exact iB k5 q
   ·cases e
@[simp] def Eo (f:FE):FA:=λρ=>(f ρ).bind λx=>jf x.1
def AR (h:JE X e f):JI X tg e (Eo f):=by
 intro ae s σ H R I q;obtain⟨B,ρ,ds,sB,r,e',q⟩:=q;obtain⟨x,ex,es⟩:=oX e';obtain⟨xd,xb⟩:=x;cases xd<;>simp only[jf]at es<;>try (cases es;done)
 ·cases es
  refine KJ h ae s σ H R I ⟨B,ρ,_,_,sB,r,ex,λv U N1 O i1 _=>?_⟩;cases i1 with
  |@tup a vs _ M hl=>
   refine⟨a,rfl,⟨vs,bz O.nh M⟩,q _ U N1 O λi H2 s2=>⟨λd ed=>?_,λG=>⟨vs,bz s2 M,by rw[hl.length];exact G⟩⟩⟩;obtain⟨v,T,iv⟩:=hl.get ed;refine⟨⟨vs,v,bz s2 M,T⟩,λy H3 hy=>?_⟩;obtain⟨rfl,hy⟩:=hy;have:=hy vs (bz s2 M);rw[T]at this;cases this;exact⟨N1,.refl s2,iv⟩
 ·cases es
  refine GB h ae s σ H R I ⟨B,ρ,_,_,sB,r,ex,λv U N1 O i1 _=>?_⟩;cases i1 with
  |@lst a vs _ M hl=>
   refine⟨a,rfl,⟨vs,O.nh.seq M⟩,q _ U N1 O λi H2 s2=>⟨λd ed=>?_,λG=>⟨vs,s2.seq M,by rw[hl.length];exact G⟩⟩⟩;obtain⟨v,T,iv⟩:=hl.get ed;refine⟨⟨vs,v,s2.seq M,T⟩,λy H3 hy=>?_⟩;obtain⟨rfl,hy⟩:=hy;have:=hy vs (s2.seq M);rw[T]at this;cases this;exact⟨N1,.refl s2,iv⟩
noncomputable def dP (lo:Int)(n:Nat):LD:=(List.range n).map λ(k:Nat)=>.int (lo+(k:Int))
def x0 {K:Frag}{B:Hp}(lo:Int)(n:Nat):nj K (Nr lo n) B (dP lo n):=by
 intro i H s;unfold dP;refine⟨λd ed=>?_,λhl=>by rw[vI,length_range]at hl;exact hl⟩;rw[vA]at ed;obtain⟨k,ek,ed⟩:=oY ed;have hk:=vV ek;obtain⟨G,hk⟩:=hk;rw[length_range]at G;rw[getElem_range]at hk;subst hk;subst ed;refine⟨G,λx H' hy=>?_⟩;obtain⟨rfl,rfl⟩:=hy;exact⟨B,.refl s,.int _⟩
@[simp] def fu (f:FE):FA:=λρ=>match f ρ with
 |some (.int j,_)=>if -1000<=j/\j<=1000 then some (dP 0 j.toNat)else none
 |_=>none
def jV (hm:X.mg "range" = none)(h:JE X a f)(O:Gl X "range":=by rfl)(hs:starEach [a] X.env=[(false,eval a X.env)]:=by rfl):PI X tg (.Call (.Name "range" p) [a] [] pos) (NR X.K (fu f)):=by
 refine PI.to (Ci O hm (ah h ak hs) hs) λσ H R q=>?_;obtain⟨B,ρ,ds,T,r,G,q⟩:=q;unfold fu at G;split at G
 ·rename_i j b' U;split at G
  ·rename_i hj;cases G
   refine⟨B,ρ,[.int j],T,r,by simp[af,aj,U],λvs H1 N1 x1 M=>?_⟩;cases M with
   |cons M i2=>
    cases M;cases i2
    exact⟨j,rfl,by omega,by omega,q _ H1 N1 x1 λ_=>x0 0 j.toNat⟩
  ·cases G
 ·cases G
def xA (hm:X.mg "range" = none)(h:JE X a f)(G:Gl X "range":=by rfl)(hs:starEach [a] X.env=[(false,eval a X.env)]:=by rfl):JI X tg (.Call (.Name "range" p) [a] [] pos) (fu f) :=
 PI.to (jV hm h G hs) λσ H R ⟨B,ρ,ds,M,r,O,q⟩=>⟨B,ρ,ds,M,r,O,λJ H' N x h=>q J H' N x (h _)⟩
end
def dj (K:Frag)(x:Str)(st:Stmt):Prop:=∃(f:Addr)(fd:FuncData),Mv K x x st f fd/\nsIn K mainGlobals x=some (some (.ref f))
def def_mk {K:Frag}{x:Str}{st:Stmt}{f:Addr}{oc:Value}{od an:Option Addr}{oA:Array (Option Value)}{kV doc pm eP ct:Value}(a:nsIn K mainGlobals x=some (some (.ref f)))
  (l:K.lookup f=some ⟨oc,od,.func (fnOf x x (gq st) (cK st) (aT st) .none kV doc pm an eP ct),oA⟩) (c:PySem.W.codeIn K eP x=true) (k:PySem.W.keepIn K (.ref f)=true):dj K x st:=⟨f,_,Lf l c k,a⟩
section
variable {P:Program}{w:World}{K:Frag}{mg:SV}{base:Heap}
def dj.fn {x:Str}{st:Stmt}{N ps:LS}{k:Nat}{g:FS}{h:Heap}(F:dj K x st)(X:K.In h)(G:h.Ns mainGlobals mg)(S:FnScope N ps (aT st))
  (M:∀(kV doc pm:Value)(an:Option Addr)(eP ct:Value)(us:LU),us.length=ps.length->bindArgs (fnOf x x (gq st) (cK st) (aT st) .none kV doc pm an eP ct) ⟨us,[]⟩=pure (ps.zip us))
  (hb:∀(f:Addr)(eP:Value)(A:Around)(outer:List PySem.Env)(s:Shared)(H:Hp)(E:XK),fg k (A.deeper (envOfC x (aT st) s.heap.objs.size f eP))->uE (oC zi P w K mg base N x (aT st) f eP A outer s H E).nox (cK st) g):
  Fn P w K mg base (k+1) x (aL g ps.length (N.length - ps.length)):=by
 obtain⟨f,fd,O,a⟩:=F;exact⟨f,fd,ps,NX O S (hb f),mg_of X G a,O.kp,O.binds M⟩
end
def Oe (H:Hp):Prop:=∀b,H b=none∨(∃o xs,H b=some (.frz o (.lst xs)))∨∃q,H b=some (.tbl q)
noncomputable def pG (M:List (Addr×Str))(G:Hp):Hp:=λb=>match M.lookup b with|some q=>some (.tbl q)|none=>G b
def gz (e:tabs.lookup b=some q):pG tabs G b=some (.tbl q):=by unfold pG;rw[e]
def jg (e:tabs.lookup b=none):pG tabs G b=G b:=by unfold pG;rw[e]
def C5 {P:Program}{w:World}{K:Frag}{mg mb:SV}{k:Nat}{fa a:Addr}{fd:FuncData}{x:Str}{sp:Sp}{M:Shared}{vs:LU}{ns:LI}(O:List (Addr×Str))
  (ht:∀b q,O.lookup b=some q->M.heap.get? b=some (PySem.W.tabObj #[])/\isCodeTable M.heap b) (V5:PySem.W.noTabs K=true)
  (KX:K.In M.heap) (MP:M.heap.Ns mainGlobals mg) (hb:M.heap.Ns builtinsNs mb) (V6:∀x:Str,x ≠ "__name__"->mb x=bootBuiltins x) (Rr:M.heap.NoLimit)
  (V7:∃bm ob,mg "__builtins__" = some (.ref bm)/\bm≠builtinsNs/\M.heap.get? bm=some ob/\ob.cls=.type "module"/\ob.dict=some builtinsNs/\ob.data=.plain) (hg:M.gens=#[])
  (ha:M.heap.get? a=some { cls:=.type "list",data:=.seq vs.toArray }) (hi:IntsAre vs ns) (hl:ns.length<=sizeLine) (hr:fg k callerA)
  (F:∀base:Heap,K.In base->base.Ns mainGlobals mg->su P w K mg base zi k fa fd [x] sp) (OU:∀(s:Shared)(u:Value),BindsTo s fd ⟨[u],[]⟩ [(x,u)])
  (PD:∀H:Hp,(∀b q,O.lookup b=some q->H b=some (.tbl q))->fT K H a (ns.map V.int)->sp [.ref a] H (λv _=>v=.bl true) λ_ _ _=>False):
  codeAny (model P w) callerA (.call (.ref fa) ⟨[.ref a],[]⟩) (λr s'=>r=.ok (.ret (.bool true))/\OldK M.heap s'.heap/\s'.os=M.os/\AllBare s'.gens) M:=by
 have rv:=L2.jd hi;have Rt:=hi.length;have OV:∀H:Hp,Oe H->(∀b q,O.lookup b=some q->H b=some (.tbl q))->fT K H a (ns.map V.int)->lf P w H M.heap->(∀b q,H b=some (.tbl q)->M.heap.get? b=some (PySem.W.tabObj #[])/\isCodeTable M.heap b) ->
   (∀b o u,H b=some (.frz o u)->b=a)->(∀b o u,H b=some (.frz o u)->K.lookup b=none) ->
   codeAny (model P w) callerA (.call (.ref fa) ⟨[.ref a],[]⟩) (λr s'=>r=.ok (.ret (.bool true))/\OldK M.heap s'.heap/\s'.os=M.os/\AllBare s'.gens) M:=by
  intro H hO hT hS hok hA hB hK;have V8:∀ {b:Addr}{o:Obj},M.heap.get? b=some o->(o.cls≠.none)->(o.cls≠.type "list")->H b=none:=λ{b o} e d d'=>by
   rcases hO b with q|⟨ob,xs,q⟩|⟨u,q⟩
   ·exact q
   ·have e':b=a:=hB b _ _ q;subst e';rw[ha]at e;cases e;exact absurd rfl d'
   ·rw[(hA b u q).1]at e;cases e;exact absurd rfl d
  have V9:∀ {b:Addr}{o:Obj}{es:Array DictEntry}{ep:Nat},M.heap.get? b=some o->o.data=.dict es ep->H b=none:=λ{b o es ep} e d=>by
   rcases hO b with q|⟨ob,xs,q⟩|⟨u,q⟩
   ·exact q
   ·have e':b=a:=hB b _ _ q;subst e';rw[ha]at e;cases e;cases d
   ·rw[(hA b u q).1]at e;cases e;cases d
  have PN:∀ {b:Addr}{m:SV},M.heap.Ns b m->(wO M.heap H).Ns b m:=λ{b m} ⟨o,es,ep,e,d,r⟩=>⟨o,es,ep,pw e (V9 e d),d,r⟩;have Tt:K.In (wO M.heap H):=λb o e=>pw (KX b o e) (by
   rcases hO b with q|⟨ob,xs,q⟩|⟨u,q⟩
   ·exact q
   ·rw[hK b _ _ q]at e;cases e
   ·have z:=(hA b u q).1;rw[KX b o e]at z;cases z
    have:=uR V5 _ (PySem.W.mem_of_lookupK e);simp at this)
  have hM:Mod K mg (wO M.heap H):=⟨Tt,PN MP,⟨mb,PN hb,V6⟩,let ⟨mc,h1,h2⟩:=Rr;⟨mc,PN h1,h2⟩,by
   obtain⟨bm,ob,b1,b2,b3,b4,b5⟩:=V7;exact⟨bm,ob,b1,b2,pw b3 (V8 b3 (by rw[b4];exact λz=>nomatch z) (by rw[b4];intro z;injection z with z;exact absurd z (by decide))),b4,b5⟩⟩
  have e0:Env0 P w K mg (wO M.heap H) callerA [] M H:=⟨rfl,hM,λb o e=>G5 e,le_of_eq (Cg _ _),trivial,λb hb=>absurd (show b∈([]:List Addr)from hb) (by simp),hok,.of_eq hg⟩;refine codeAny_mono ((F _ Tt (PN MP)).run callerA [] M H ⟨[.ref a],[]⟩ [.ref a] [.ref a] _ _ hr e0 (OU M (.ref a)) (.cons rfl .nil) (PD H hT hS)) λr s' h=>?_;cases r with
  |error e=>exact False.elim h
  |ok fl=>
   cases fl with
   |next=>exact False.elim h
   |brk=>exact False.elim h
   |cont=>exact False.elim h
   |ret u=>
    obtain⟨v,H',os,bare,un,OW,r',q⟩:=h;have q':v=.bl true:=q;subst q';obtain rfl:u=Value.bool true:=r';have kp:∀b o,H b=none->M.heap.get? b=some o->s'.heap.get? b=some o:=λb o n e=>un.keep b o e n (by intro z;exact absurd (show b∈([]:List Addr)from z) (by simp)) (by simp);refine⟨rfl,⟨λb o e=>?_,λb o e=>un.there b o e (by simp)⟩,os,bare⟩;rcases hO b with z|⟨ob,xs,z⟩|⟨u,z⟩
    ·exact .inl (kp b o z e)
    ·have z2:=un.frzs b ob _ z;obtain⟨e1,_⟩:=hok b _ z;obtain⟨e2,_⟩:=OW b _ z2;rw[e]at e1;cases e1;exact .inl e2
    ·obtain⟨e1,e2⟩:=hA b u z;rw[e]at e1;cases e1;obtain⟨ps,e3,_⟩:=OW b _ (un.tbls b u z);exact .inr (.inl ⟨e2,rfl,#[],ps,rfl,by simpa using e3⟩)
 have Mx:∀q,O.lookup a≠some q:=λq z=>by
  have:=(ht a q z).1;rw[ha]at this;cases this
 have ta:O.lookup a=none:=by
  cases z:O.lookup a with
  |none=>rfl
  |some q=>exact absurd z (Mx q)
 have U:∀(G:Hp) b q,O.lookup b=some q->bT P w (pG O G) M.heap b (.tbl q):=λG b q z=>⟨#[],(ht b q z).1,trivial,λpos cv c=>by cases c⟩;cases hk:K.lookup a with
 |some o=>
  have e:=KX a o hk;rw[ha]at e;cases e
  refine OV (pG O λ_=>none) (λb=>?_) (λb q z=>gz z) (.inr ⟨_,vs.toArray,_,hk,rfl,rfl,rfl,by rw[vH,Rt];exact hl,by simpa using rv⟩) (λb u z=>?_) (λb q z=>?_) (λb o u z=>?_) λb o u z=>?_
  all_goals cases T:O.lookup b with
   |none=>first|exact .inl (jg T)|(rw[jg T]at z;cases z)
   |some q'=>first|exact .inr (.inr ⟨q',gz T⟩)|(rw[gz T]at z;cases z;done)|(rw[gz T]at z;cases z;first|exact U _ b _ T|exact ht b _ T)
 |none=>
  refine OV (pG O λb=>if b=a then some (.frz { cls:=.type "list",data:=.seq vs.toArray } (.lst (ns.map V.int)))else none) (λb=>?_) (λb q z=>gz z) (.inl (.inr ⟨{ cls:=.type "list",data:=.seq vs.toArray },by rw[jg ta,if_pos rfl]⟩)) (λb u z=>?_) (λb q z=>?_) (λb o u z=>?_) λb o u z=>?_
  all_goals cases T:O.lookup b with
   |some q'=>first|exact .inr (.inr ⟨q',gz T⟩)|(rw[gz T]at z;cases z;done)|(rw[gz T]at z;cases z;first|exact U _ b _ T|exact ht b _ T)
   |none=>
    first
    |rw[jg T]at z
    |rw[jg T]
    by_cases hb:b=a
    ·first
     |rw[if_pos hb]at z
     |rw[if_pos hb]
     first
     |exact .inr (.inl ⟨_,_,rfl⟩)
     | (cases z;subst hb;exact⟨ha,by rw[vI];exact hl,vs,_,rv,ha⟩)
     |exact hb
     | (rw[hb];exact hk)
     |cases z
    ·first
     | (rw[if_neg hb]at z;cases z)
     |exact .inl (if_neg hb)
noncomputable def vj (L:List (Str×Option (Addr×Addr))):List (Addr×Str):=L.filterMap λp=>p.2.map λq=>(q.2,pB p.1)
structure pq (K:Frag)(L:List (Str×Option (Addr×Addr))):Prop where
 names:L=md.map λx=>(x,PySem.W.tabIn K x)
 apart:((vj L).map (·.1)).Nodup
 none:PySem.W.noTabs K=true
theorem lh {α G:Type}[BEq α][LawfulBEq α]:∀ {l:List (α×G)}{a:α}{b:G},(l.map (·.1)).Nodup->(a,b)∈l->l.lookup a=some b
 | (c,d)::l,a,b,nd,h=>by
  rw[lookup_cons];rcases vP h with e|h
  ·cases e;simp
  ·have ne:a≠c:=λz=>(nodup_cons.mp nd).1 (by rw[←z];exact uS ⟨(a,b),h,rfl⟩);rw[show(a == c)=false by simpa using ne];exact lh (nodup_cons.mp nd).2 h
theorem jW {α G:Type}[BEq α][LawfulBEq α]:∀ {l:List (α×G)}{a:α}{b:G},l.lookup a=some b->(a,b)∈l
 | (c,d)::l,a,b,h=>by
  rw[lookup_cons]at h;cases e:a == c with
  |true=>rw[e]at h;cases h;rw[eq_of_beq e];exact mX
  |false=>rw[e]at h;exact mZ _ (jW h)
def pq.tb {K:Frag}{L:List (Str×Option (Addr×Addr))}(F:pq K L){H:Hp}(h:∀b q,(vj L).lookup b=some q->H b=some (.tbl q)):Tb K H:=λx hx c P e=>by
 refine h P (pB x) (lh F.apart ?_);rw[F.names];exact mem_filterMap.mpr ⟨(x,PySem.W.tabIn K x),uS ⟨x,hx,rfl⟩,by rw[e];rfl⟩
def tab_yes {K:Frag}{x:Str}{f c P:Addr}{oc M:Value}{od O:Option Addr}{oA G:Array (Option Value)}{fd:FuncData}{vs:AV}(T:nsIn K mainGlobals x=some (some (.ref f)))(e2:K.lookup f=some ⟨oc,od,.func fd,oA⟩)(U:fd.code=.ref c)
  (e4:K.lookup c=some ⟨M,O,.fields vs,G⟩) (e5:vs[11]? = some (.ref P)):PySem.W.tabIn K x=some (c,P):=by unfold PySem.W.tabIn;simp only[T,e2,U,e4,e5]
def tabs_fit {K:Frag}{G M O T:Option (Addr×Addr)}(h0:PySem.W.tabIn K "in_order" = G)(h1:PySem.W.tabIn K "has_seal" = M)(h2:PySem.W.tabIn K "is_first_death" = O)(h3:PySem.W.tabIn K "bases_by" = T)
  (U:((vj [("in_order",G),("has_seal",M),("is_first_death",O),("bases_by",T)]).map (·.1)).Nodup) (nt:PySem.W.noTabs K=true):pq K [("in_order",G),("has_seal",M),("is_first_death",O),("bases_by",T)] :=
 ⟨by subst h0;subst h1;subst h2;subst h3;rfl,U,nt⟩
def walkD {l:PySem.W.OpenLaw}{q:Program}{O:LS}{XP:SV->Heap->Prop}{YP:World->Heap->Prop}{d:DefRec}{K:Params->Frag}{k:Nat}{x:Str}{f:LD->OB}{L:List (Str×Option (Addr×Addr))}(hn:l.most=some 63)(OJ:d.params.defaults=[])(hr:fg k callerA)
  (hY:∀(w:World)(h:Heap),YP w h->(K w.params).In h) (hT:∀w:World,pq (K w.params) L) (hD:(L.all λp=>p.2.isNone || ((recsOf q).find? λe=>e.name == p.1).isSome)=true)
  (F:∀(w:World)(mg:SV)(fa:Addr)(h:Heap),(K w.params).In h->h.Ns mainGlobals mg->mg d.name=some (.ref fa) ->
   ∃fd:FuncData,(∀(s:Shared)(u:Value),BindsTo s fd ⟨[u],[]⟩ [(x,u)])/\∀base:Heap,(K w.params).In base->base.Ns mainGlobals mg->su l.prog w (K w.params) mg base zi k fa fd [x] (Hr (K w.params) f))
  (ht:∀ns:LI,ns.length<=63->∃b,f [.lst (ns.map .int)]=some (.bl true,b)):PySem.W.WalkO q O XP YP l.row.toRowW d [] (λf vs=>PySem.call f vs):=by
 refine Att.wW hn OJ λw s₀ s₁ mg mb fa o pm cd doc a vs ns G Y ho hd Mt hmg Mu U M hg=>?_;have KX:=hY w _ Y;obtain⟨fd,hb,hF⟩:=F w mg fa _ KX G.T.g hmg;refine C5 (vj L) (λb u e=>?_) (hT w).none KX G.T.g G.T.b G.T.builtins G.T.nolimit G.T.bmain hg Mu U (vR M (by decide)) hr hF hb λH hH hS=>?_
 ·obtain⟨p,hp,e2⟩:=mem_filterMap.mp (jW e);obtain⟨⟨c,P⟩,e3,e4⟩:=oY e2;cases e4
  have Ru:=uR hD p hp;rw[e3]at Ru;rw[Option.isNone_some,Bool.false_or]at Ru;obtain⟨r,VA⟩:=uU Ru;have VB:PySem.W.tabIn (K w.params) p.1=some (c,P):=by
   rw[(hT w).names]at hp;obtain⟨y,_,rfl⟩:=vO hp;exact e3
  obtain⟨h1,h2⟩:=PySem.W.tab_of G.T KX VA VB;exact⟨h2,(h1.tab h2).isCodeTable⟩
 ·obtain⟨b,e⟩:=ht ns M;exact⟨H,_,_,b,⟨.refl H,(hT w).tb hH⟩,.cons (.lst hS (.flat rfl)) .nil,e,λv H' N x' i' _=>by cases i';rfl⟩
def dj.law {P:Program}{w:World}{K:Frag}{mg:SV}{x y:Str}{st:Stmt}{N:LS}{k:Nat}{g:FS}{h:Heap}{fa:Addr}(F:dj K x st)(X:K.In h)(G:h.Ns mainGlobals mg)(M:mg x=some (.ref fa))(S:FnScope N [y] (aT st))
  (O:∀(kV doc pm:Value)(an:Option Addr)(eP ct:Value)(u:Value),bindArgs (fnOf x x (gq st) (cK st) (aT st) .none kV doc pm an eP ct) ⟨[u],[]⟩=pure [(y,u)])
  (hb:∀(base:Heap),K.In base->base.Ns mainGlobals mg->∀(f:Addr)(eP:Value)(A:Around)(outer:List PySem.Env)(s:Shared)(H:Hp)(E:XK),fg k (A.deeper (envOfC x (aT st) s.heap.objs.size f eP))->uE (oC zi P w K mg base N x (aT st) f eP A outer s H E).nox (cK st) g):
  ∃fd:FuncData,(∀(s:Shared)(u:Value),BindsTo s fd ⟨[u],[]⟩ [(y,u)])/\∀base:Heap,K.In base->base.Ns mainGlobals mg->su P w K mg base zi (k+1) fa fd [y] (Hr K (aL g 1 (N.length - 1))):=by
 obtain⟨f,fd,T,a⟩:=F;have e:=M.symm.trans (mg_of X G a);cases e
 refine⟨fd,λs u=>?_,λbase U nb=>NX T S (hb base U nb _)⟩;obtain⟨oc,od,kV,doc,pm,an,eP,ct,oA,rfl,lk,Mt⟩:=T.ex;exact .of_eq (O kV doc pm an eP ct u)
section
variable {X:Cx}{a b e:Expr}{pos:Pos}{x:Str}{p:Pos}
@[simp] noncomputable def Hx:D->D->OB
 |.lst xs,.lst ys=>if xs.length+ys.length<=sizeLine then some (.lst (xs++ys),true)else none
 |_,_=>none
def L6:dw X (binaryOp .Add) (rD X.K Hx):=by
 intro ae s σ H x y v u Q I rx ry q;obtain⟨B,dx,dy,d,bb,T,ix,iy,O,q⟩:=q;cases ix<;>try (cases O;done)
 all_goals (cases iy<;>try (cases O;done))
 rename_i l vs ds h hl l' ws es h' M;simp only[Hx]at O;split at O
 ·rename_i hz;cases O
  cases rx
  cases ry
  obtain⟨its,U,p1,z1⟩:=I.list (T.seq h);obtain⟨G,r2,p2,z2⟩:=I.list (T.seq h');obtain⟨⟨c1,d1,t1,s1⟩,o1,e1,n1,k1⟩:=p1.isList;obtain⟨⟨c2,d2,t2,s2⟩,o2,e2,n2,k2⟩:=p2.isList;dsimp only at e1 k1 e2 k2;subst e1;subst k1;subst e2;subst k2;have hsz:its.toArray.size+G.toArray.size<=sizeLine:=by
   rw[vH,vH,←U.length,←r2.length,hl.length,M.length];exact hz
  have ea:its.toArray++G.toArray=(its++G).toArray:=by simp
  refine concat_meets ⟨_,o1,rfl⟩ ⟨_,o2,rfl⟩ noFill_list_add seq_list_add PySem.F.slot_list_add PySem.F.entry_list_add (PySem.F.args_list_add_2 _ _) (list_addW l l' its.toArray G.toArray n1 n2 d1 d2 s1 s2 hsz) ⟨o1,o2,?_⟩;rw[ea];have xt:=Ext.laid (o:=.lst (vs++ws)) T I.fresh;have il:=(hl.append M).mono xt.bn;exact⟨.ref s.heap.objs.size,_,I.lnew (t':=s.toks) (U.append r2) (by rw[uZ,hl.length,M.length];exact hz),rfl,q _ _ _ xt (.lst (fT.of aC) il) λ_=>⟨_,_,_,rfl,rfl,I.fresh,aC,il⟩⟩
 ·cases O
@[simp] noncomputable def rZ:D->D->OB
 |.tup xs,.tup ys=>if xs.length+ys.length<=sizeLine/\xs.isEmpty=false then some (.tup (xs++ys),false)else none
 |_,_=>none
def Ep:dw X (binaryOp .Add) (rD X.K rZ):=by
 refine iN GN λx y H Q q=>?_;obtain⟨B,dx,dy,d,bb,O,ix,iy,M,q⟩:=q;cases ix<;>try (cases M;done)
 all_goals (cases iy<;>try (cases M;done))
 rename_i l vs ds h hl l' T es h' G;simp only[rZ]at M;split at M
 ·rename_i hz;cases M
  have l1:=hl.length;have l2:=G.length;refine⟨l,l',vs,T,rfl,rfl,bz O h,bz O h',λz=>?_,by omega,λz=>?_,λ_ pp hp=>?_⟩
  ·subst z;cases hl
   simp at hz
  ·subst z;cases G
   rw[uQ]at q;exact q.one O (.tup h hl)
  ·have U:=Ext.laid (o:=.tup (vs++T)) O hp;exact q _ _ _ U (.tup (iY.of aC) ((hl.append G).mono U.bn)) (by simp)
 ·cases M
@[simp] noncomputable def Er:D->D->OB
 |.bl i,.int j=>some (.int ((if i=true then 1 else 0)+j),false)
 |.int i,.bl j=>some (.int (i+b2i j),false)
 |_,_=>none
def L7:dw X (binaryOp .Add) (rD X.K Er):=by
 intro ae s σ H x y v u Q I M O q;obtain⟨B,dx,dy,d,bb,T,U,iy,G,q⟩:=q;cases U<;>try (cases G;done)
 all_goals (cases iy<;>try (cases G;done))
 ·simp only[Er]at G;cases G
  cases M
  obtain⟨t,rfl⟩:=O;exact IntBool.add_bool_int ⟨.int _,H,I.tok _,⟨_,rfl⟩,q.one T (.int _)⟩
 ·simp only[Er]at G;cases G
  exact Cm ae s σ H _ _ v u Q I M O ⟨_,_,rfl,rfl,q.one T (.int _)⟩
@[simp] noncomputable def be:D->D->OB
 |.int i,.int j=>some (.int (i+j),false)
 |.str i,.str j=>if i.length+j.length<=sizeLine then some (.str (i++j),false)else none
 |.lst xs,.lst ys=>if xs.length+ys.length<=sizeLine then some (.lst (xs++ys),true)else none
 |.tup xs,.tup ys=>if xs.length+ys.length<=sizeLine/\xs.isEmpty=false then some (.tup (xs++ys),false)else none
 |.bl i,.int j=>some (.int ((if i=true then 1 else 0)+j),false)
 |.int i,.bl j=>some (.int (i+b2i j),false)
 |_,_=>none
def aJ:dw X (binaryOp .Add) (rD X.K be):=by
 refine iN (r:=rD X.K (D2 AM (D2 Hx (D2 rZ Er)))) (nn Hs (nn L6 (nn Ep L7))) λx y H Q q=>?_;obtain⟨B,dx,M,d,bb,O,T,U,G,q⟩:=q;refine⟨B,dx,M,d,bb,O,T,U,?_,q⟩;cases dx<;>try (cases G;done)
 all_goals (cases M<;>try (cases G;done))
 all_goals (simp[be]at G;simp[D2,AM,Hx,rZ,Er,G])
@[simp] noncomputable def QE:D->Option Bool
 |.bl b=>some b
 |_=>none
def pH:LD->Option (List Bool)
 |[]=>some []
 |d::ds=>(QE d).bind λb=>(pH ds).map (b :: ·)
@[simp] def Of:pH []=some []:=rfl
@[simp] def C6 (d:D)(ds:LD):pH (d::ds)=(QE d).bind λb=>(pH ds).map (b :: ·):=rfl
theorem vk {K:Frag}{B:Hp}:∀ {vs:LV}{ds:LD}{bs:List Bool}{its:LU},L2.ba vs its->IsL K B vs ds->pH ds=some bs->its=bs.map Value.bool
 |_,_,_,_,.nil,.nil,e=>by cases e;rfl
 |_,_,_,_,.cons r M,.cons i O,e=>by
  rw[C6]at e;obtain⟨b,G,e⟩:=oX e;obtain⟨bs,e2,e⟩:=oY e;subst e;cases i<;>simp only[QE]at G<;>try (cases G;done)
  cases G
  cases r
  rw[vk M O e2];rfl
@[simp] def Es:LD->OB
 |[.lst ds]=>(pH ds).map λbs=>(.bl (bs.all id),false)
 |_=>none
@[simp] def Et:LD->OB
 |[.lst ds]=>(pH ds).map λbs=>(.bl (bs.any id),false)
 |_=>none
def JL (hc:X.calm=true:=by rfl):bW X (.builtin "all") (AD X.K Es):=by
 intro ae s σ H xs us Q I rs q;obtain⟨B,ds,d,bb,sB,i,G,q⟩:=q;match ds,i,G with
 |[.lst es],.cons i1 .nil,G=>
  obtain⟨bs,eb,G⟩:=oY G;cases G
  obtain⟨u1,rfl,r1⟩:=gI rs;cases i1 with
  |@lst l vs _ h hl=>
   cases r1
   obtain⟨its,rv,T,z1⟩:=I.list (sB.seq h);have ei:=vk rv hl eb;have U:l<s.heap.objs.size:=by obtain⟨_,M,_⟩:=T.isList;exact vX M
   refine call_all_walk (wpAny_pyIter_list T.isList ⟨_,_,_,_,_,_,λj=>(bs[j]?).getD true,rfl,Walks.list (A:=X.A.in1) (I.ok.hd hc) s.heap.objs.size l (vS U) its.toArray,⟨⟨_,vY _ rfl,rfl,rfl⟩,T.isList.push _⟩,λj v s' Q' E' hP hQ=>?_,λh' tk hk=>?_⟩)
   ·have O:its[j]? = some v:=by simpa using hP
    rw[ei,vA]at O;obtain⟨c,e1,e2⟩:=oY O;subst e2;dsimp only at hQ;rw[e1]at hQ;exact wpAny_truthy_bool hQ
   ·have ea:((List.range its.toArray.size).all λj=>(bs[j]?).getD true)=bs.all id:=by
     rw[vH,ei,vI];exact LSm.range_all bs
    rw[ea];refine⟨.bl _,H,I.kept λc o M=>?_,rfl,q.one sB (.bl _)⟩;exact hk c o (λhm=>by rw[uT hm]at M;exact Nat.lt_irrefl _ (vX M)) (vZ _ M)
def JM (hc:X.calm=true:=by rfl):bW X (.builtin "any") (AD X.K Et):=by
 intro ae s σ H xs us Q I rs q;obtain⟨B,ds,d,bb,sB,i,G,q⟩:=q;match ds,i,G with
 |[.lst es],.cons i1 .nil,G=>
  obtain⟨bs,eb,G⟩:=oY G;cases G
  obtain⟨u1,rfl,r1⟩:=gI rs;cases i1 with
  |@lst l vs _ h hl=>
   cases r1
   obtain⟨its,rv,T,z1⟩:=I.list (sB.seq h);have ei:=vk rv hl eb;have U:l<s.heap.objs.size:=by obtain⟨_,M,_⟩:=T.isList;exact vX M
   refine call_any_walk (wpAny_pyIter_list T.isList ⟨_,_,_,_,_,_,λj=>(bs[j]?).getD false,rfl,Walks.list (A:=X.A.in1) (I.ok.hd hc) s.heap.objs.size l (vS U) its.toArray,⟨⟨_,vY _ rfl,rfl,rfl⟩,T.isList.push _⟩,λj v s' Q' E' hP hQ=>?_,λh' tk hk=>?_⟩)
   ·have O:its[j]? = some v:=by simpa using hP
    rw[ei,vA]at O;obtain⟨c,e1,e2⟩:=oY O;subst e2;dsimp only at hQ;rw[e1]at hQ;exact wpAny_truthy_bool hQ
   ·have ea:((List.range its.toArray.size).any λj=>(bs[j]?).getD false)=bs.any id:=by
     rw[vH,ei,vI];exact LSm.range_any bs
    rw[ea];refine⟨.bl _,H,I.kept λc o M=>?_,rfl,q.one sB (.bl _)⟩;exact hk c o (λhm=>by rw[uT hm]at M;exact Nat.lt_irrefl _ (vX M)) (vZ _ M)
def JN:bootBuiltins "any" = some (.builtin "any"):=by decide +kernel
end
noncomputable def Hy (z:Str):It:=⟨λi _=>i<z.cps.size,λi H v H'=>H'=H/\∃c,z.cps[i]? = some c/\v=.str ⟨#[c]⟩,λi _=>z.cps.size<=i⟩
def xB {P:Program}{w:World}{K:Frag}{tg:Expr}(z:Str)(t:Tok)(it:Addr):Turn P w K tg (Hy z) [it] it (λi h=>h.IsStrIter it "str_ascii_iterator" z t i) where
 mem:=mem_singleton.mpr rfl
 obj:=λi h st b hb=>by
  have T:=uT hb;subst T;obtain⟨o,M,_,d1⟩:=st;exact⟨o,M,λv zz=>by rw[d1]at zz;cases zz⟩
 keep:=λi h h' st k=>let ⟨o,M,r⟩:=st;⟨o,k it (mem_singleton.mpr rfl) o M,r⟩
 item:=by
  intro X U hw hK hc i ae s σ H E I hf st hg;subst U hw hK;have G:i<z.cps.size:=hg;obtain⟨f0,f1,f2,f3,f4,f5⟩:=hf it (mem_singleton.mpr rfl);refine wpAny_pyNext_ascii_item st (c:=z.cps[i]) (by simp[G]) λh' O sb=>?_;obtain⟨o,M,c1,d1⟩:=id O;exact⟨_,rfl,sA (s:={ s with heap:=h',toks:=s.toks+1 }) M c1 d1 (by decide) ⟨.str ⟨#[z.cps[i]]⟩,H,I.turned (λb o hb e2=>(sb.2 b hb).trans e2) f0 f1 f3 f4 f5,⟨_,rfl⟩,⟨rfl,_,by simp[G],rfl⟩,O,λb hb=>(hf b hb).1⟩⟩
 done:=by
  intro X U hw hK hc i ae s σ H E I hf st hg;subst U hw hK;have G:z.cps.size<=i:=hg;obtain⟨f0,f1,f2,f3,f4,f5⟩:=hf it (mem_singleton.mpr rfl);exact wpAny_pyNext_ascii_end (I.ok.hd hc) st (by simp;omega) λh' T=>⟨rfl,I.turned (t':=s.toks) (λb o hb e2=>T b o hb e2) f0 f1 f3 f4 f5⟩
 self:=λ_ _ _ _ _ st h=>wpAny_pyIter_striter_ascii st h
def xC {P:Program}{w:World}{K:Frag}{tg:Expr}(z:Str)(t:Tok)(it:Addr):Turn P w K tg (Hy z) [it] it (λi h=>h.IsStrIter it "str_iterator" z t i) where
 mem:=mem_singleton.mpr rfl
 obj:=λi h st b hb=>by
  have T:=uT hb;subst T;obtain⟨o,M,_,d1⟩:=st;exact⟨o,M,λv zz=>by rw[d1]at zz;cases zz⟩
 keep:=λi h h' st k=>let ⟨o,M,r⟩:=st;⟨o,k it (mem_singleton.mpr rfl) o M,r⟩
 item:=by
  intro X U hw hK hc i ae s σ H E I hf st hg;subst U hw hK;have G:i<z.cps.size:=hg;obtain⟨f0,f1,f2,f3,f4,f5⟩:=hf it (mem_singleton.mpr rfl);refine wpAny_pyNext_wide_item st (c:=z.cps[i]) (by simp[G]) λh' O sb=>?_;obtain⟨o,M,c1,d1⟩:=id O;exact⟨_,rfl,sA (s:={ s with heap:=h',toks:=s.toks+1 }) M c1 d1 (by decide) ⟨.str ⟨#[z.cps[i]]⟩,H,I.turned (λb o hb e2=>(sb.2 b hb).trans e2) f0 f1 f3 f4 f5,⟨_,rfl⟩,⟨rfl,_,by simp[G],rfl⟩,O,λb hb=>(hf b hb).1⟩⟩
 done:=by
  intro X U hw hK hc i ae s σ H E I hf st hg;subst U hw hK;have G:z.cps.size<=i:=hg;obtain⟨f0,f1,f2,f3,f4,f5⟩:=hf it (mem_singleton.mpr rfl);exact wpAny_pyNext_wide_end (I.ok.hd hc) st (by simp;omega) λh' T=>⟨rfl,I.turned (t':=s.toks) (λb o hb e2=>T b o hb e2) f0 f1 f3 f4 f5⟩
 self:=λ_ _ _ _ _ st h=>wpAny_pyIter_striter_wide st h
section
variable {X:Cx}{a b e:Expr}{pos:Pos}{x:Str}{p:Pos}{tg:Expr}
def Eu {l:Expr}{tl:TE}(hl:PE X l tl):PI X tg l (λσ H R=>tl σ H λx G=>∃z,x=.str z/\R (Hy z) G):=by
 intro ae s σ H R I h;refine cn (hl ae s σ H _ I h) λv s1 ⟨x,G,I1,M,O⟩=>?_;obtain⟨z,rfl,q⟩:=O;obtain⟨t,rfl⟩:=M;have fp:∀b∈[s1.heap.objs.size],mU X ae G b:=λb hb=>by
  rw[uT hb];exact I1.fpOk (vT _) (I1.hok.fresh (vT _))
 cases ha:z.cps.all (· < 128) with
 |true=>exact wpAny_pyIter_ascii ha ⟨_,[s1.heap.objs.size],_,_,G,rfl,I1.kept (t':=s1.toks) λb o e=>vZ _ e,xB z t _,⟨_,vY _ rfl,rfl,rfl⟩,fp,q⟩
 |false=>exact wpAny_pyIter_wide ha ⟨_,[s1.heap.objs.size],_,_,G,rfl,I1.kept (t':=s1.toks) λb o e=>vZ _ e,xC z t _,⟨_,vY _ rfl,rfl,rfl⟩,fp,q⟩
noncomputable def AS (z:Str):LD:=z.cps.toList.map λc=>.str ⟨#[c]⟩
def Ev {K:Frag}{B:Hp}(z:Str):nj K (Hy z) B (AS z):=by
 intro i H s;refine⟨λd ed=>?_,λhl=>by unfold AS at hl;show z.cps.size<=i;simpa using hl⟩;unfold AS at ed;rw[vA]at ed;obtain⟨c,O,rfl⟩:=oY ed;have G:z.cps[i]? = some c:=by simpa using O
 refine⟨(Array.getElem?_eq_some_iff.mp G).1,λv H' hy=>?_⟩;obtain⟨rfl,T,M,rfl⟩:=hy;rw[G]at M;cases M;exact⟨B,.refl s,.str _⟩
@[simp] def L8:D->Option LD
 |.lst ds=>some ds
 |.tup ds=>some ds
 |.str z=>some (AS z)
 |_=>none
@[simp] def bP (f:FE):FA:=λρ=>(f ρ).bind λx=>L8 x.1
def bQ (h:JE X e f):JI X tg e (bP f):=by
 intro ae s σ H R I q;obtain⟨B,ρ,ds,G,r,M,q⟩:=q;obtain⟨O,ex,es⟩:=oX M;obtain⟨xd,xb⟩:=O;cases xd with
 |lst l=>exact AR h ae s σ H R I ⟨B,ρ,ds,G,r,by unfold Eo;rw[ex];exact es,q⟩
 |tup l=>exact AR h ae s σ H R I ⟨B,ρ,ds,G,r,by unfold Eo;rw[ex];exact es,q⟩
 |str z=>
  cases es
  refine Eu h ae s σ H R I ⟨B,ρ,_,_,G,r,ex,λv T N1 U i1 _=>?_⟩;cases i1
  exact⟨z,rfl,q _ T N1 U (Ev z)⟩
 |_=>cases es
def Hz:D1 X (λx lo hi H Q=>∃z,x=.str z/\z.length<=sizeLine/\Q (.str (Txt.slice z lo hi)) H):=by
 intro ae s σ H x v vl T lo hi sl Q I O hs pl M h;obtain⟨z,rfl,hz,q⟩:=h;obtain⟨t,rfl⟩:=O;have iB:∀lo hi,Q (.str (Txt.slice z lo hi)) H->(Txt.slice z lo hi).length<=sizeLine/\∀t' k,EP X ae σ Q (.str (Txt.slice z lo hi) t') { s with toks:=k }:=λlo hi q=>
  ⟨vR (Txt.slice_le z _ _) hz,λt' k=>⟨.str _,H,I.tok k,⟨t',rfl⟩,q⟩⟩
 refine⟨"str",_,PySem.F.slot_str_getitem.lookup,typeIs_str _ _ _,?_⟩;cases pl with
 |none=>
  cases M with
  |none=>exact wpAny_getItem_str_slice (l:=none) (u:=none) (st:=none) hs rfl (post_val_or_str (iB _ _ q))
  |int j G=>exact wpAny_getItem_str_slice (l:=none) (u:=some (j,G)) (st:=none) hs rfl (post_val_or_str (iB _ _ q))
 |int i ti=>
  cases M with
  |none=>exact wpAny_getItem_str_slice (l:=some (i,ti)) (u:=none) (st:=none) hs rfl (post_val_or_str (iB _ _ q))
  |int j G=>exact wpAny_getItem_str_slice (l:=some (i,ti)) (u:=some (j,G)) (st:=none) hs rfl (post_val_or_str (iB _ _ q))
def C7 {A:Around}{E:QV}{s:Shared}{prog:Program}{w:World}{t sl:Addr}{items:AV}{vl U:Value}{lo hi:OI}{Q:QV}(G:IsTup s.heap t items)(hs:s.heap.IsSliceOf sl vl U .none)(pl:IsPart vl lo)(pu:IsPart U hi)
  (h0:HT.eD items.size 0 lo=0) (h1:HT.eD items.size items.size hi=items.size) (h:Q (.ref t) s):wpAny (model prog w) A (getItem (.ref t) (.ref sl)) Q E s:=by
 obtain⟨os,M,O,Ri⟩:=id hs
 have hT:s.TypeIs (.ref sl) "slice":=⟨os,M,O⟩
 unfold getItem
 try with_reducible refine wpAny_holding ?_
 first|refine wX (wY ?_)|skip
 refine wX (wpAny_sequenceKey G.typeIs (by decide) ?_)
 refine wX (wpAny_callSpecial?_slot (name:=Str.ofString "__getitem__") G.typeIs PyProof.Rows.slot_tuple_getitem (wpAny_call_entry PyProof.Rows.slot_tuple_getitem G.typeIs entry_tuple_getitem ?_ (args_tuple_getitem _ _)))
 show wpAny _ _ (Builtin.Tuple.tupleItemsOf (.ref t)>>=_) _ _ s
 refine wX (tupleItemsOf_ G ?_)
 refine wX (wpAny_typeOf hT ?_)
 rw[if_pos (by decide)]
 refine wX (HT.jc hs pl pu ?_)
 have T:(((HT.eD items.size 0 lo:Nat):Int) == 0 && (1:Int) == 1 && (HT.eD items.size items.size hi - HT.eD items.size 0 lo) == items.size)=true:=by
  rw[h0,h1];simp
 show wpAny _ _ (if(((HT.eD items.size 0 lo:Nat):Int) == 0 && (1:Int) == 1 && (HT.eD items.size items.size hi - HT.eD items.size 0 lo) == items.size)=true then _ else _) _ _ s
 rw[if_pos T]
 refine wX ?_
 unfold Builtin.Tuple.tupleIsExact
 refine wX (wpAny_typeOf G.typeIs (wY ?_))
 show wpAny _ _ (if((Value.type "tuple") == Value.type "tuple")=true then _ else _) _ _ s
 rw[if_pos (by decide)]
 refine wX (wpAny_rule ?_)
 exact wY ⟨_,rfl,wY h⟩
def HA:D1 X (λx lo hi H Q=>∃a xs,x=.ref a/\iY X.K H a xs/\HT.eD xs.length 0 lo=0/\HT.eD xs.length xs.length hi=xs.length/\Q (.ref a) H):=by
 intro ae s σ H x v vl U lo hi sl Q I O hs pl T h;obtain⟨a,xs,rfl,hx,h0,h1,q⟩:=h;cases O
 obtain⟨its,r,M,hz⟩:=I.tuple hx;have G:its.toArray.size=xs.length:=by rw[vH];exact r.length.symm
 refine⟨"tuple",_,PyProof.Rows.slot_tuple_getitem.lookup,M.typeIs,?_⟩;exact C7 M hs pl T (by rw[G];exact h0) (by rw[G];exact h1) ⟨.ref a,H,I,rfl,q⟩
@[simp] def lC (fa:FE)(fl G:FO):FE:=λρ=>(fa ρ).bind λx=>(fl ρ).bind λl=>(G ρ).bind λh=>match x.1 with
 |.lst ds=>some (.lst (i7 ds l h),true)
 |.tup ds=>some (.tup (i7 ds l h),false)
 |.str z=>if z.length<=sizeLine then some (.str (Txt.slice z l h),false)else none
 |_=>none
def zH {ds:LD}{lo hi:OI}(h0:HT.eD ds.length 0 lo=0)(h1:HT.eD ds.length ds.length hi=ds.length):i7 ds lo hi=ds:=by
 unfold i7;rw[h0,h1];simp
def cN {lo hi:Option Expr}{p2:Pos}{fa:FE}{fl fh:FO}(ha:JE X e fa)(hl:JO X lo fl)(hh:JO X hi fh):JE X (.Subscript e (.Slice lo hi none p2) pos) (lC fa fl fh):=by
 refine PE.to (DP (D1.or (D1.or GR Lc) (D1.or Hz HA)) ha hl hh) λσ H Q q=>?_;obtain⟨B,ρ,d,b,sB,r,e,q⟩:=q;obtain⟨x,ex,e⟩:=oX e;obtain⟨l,el,e⟩:=oX e;obtain⟨h,eh,e⟩:=oX e;refine⟨B,ρ,x.1,x.2,sB,r,ex,λv H1 N1 G i1 _=>⟨N1,ρ,l,G.nh,r.mono G.bn,el,λH2 h2=>⟨N1,ρ,h,G.nh.trans h2,r.mono G.bn,eh,λH3 h3=>?_⟩⟩⟩;have M:bc N1 H3:=G.nh.trans (h2.trans h3);have T:=q.into (G.trans (.grow G.nh (h2.trans h3)));obtain⟨xd,xb⟩:=x;dsimp only at e i1;cases i1 with
 |@tup U vs ds hs hv=>
  cases e
  by_cases hw:HT.eD ds.length 0 l=0/\HT.eD ds.length ds.length h=ds.length
  ·rw[zH hw.1 hw.2]at T;exact .inr (.inr ⟨U,vs,rfl,bz M hs,by rw[hv.length];exact hw.1,by rw[hv.length];exact hw.2,T.one M (.tup hs hv)⟩)
  ·refine .inl (.inr ⟨U,vs,rfl,bz M hs,by rw[hv.length];exact hw,λp hp=>?_⟩);have O:=Ext.laid (o:=.tup (rV vs l h)) M hp;exact T _ _ _ O (.tup (iY.of aC) ((uM hv).mono O.bn)) (by simp)
 |@lst U vs ds hs hv=>
  cases e
  refine .inl (.inl ⟨U,vs,rfl,M.seq hs,λp hp=>?_⟩);have O:=Ext.laid (o:=.lst (rV vs l h)) M hp;exact T _ _ _ O (.lst (fT.of aC) ((uM hv).mono O.bn)) λ_=>⟨p,_,_,rfl,rfl,hp,aC,(uM hv).mono O.bn⟩
 |str z=>
  dsimp only at e;split at e
  ·rename_i hz;cases e
   exact .inr (.inl ⟨z,rfl,hz,T.one M (.str _)⟩)
  ·cases e
 |_=>cases e
noncomputable def vn:Value->D->Bool
 |.none,.non=>true
 |.bool a,.bl b=>a == b
 |.int i _,.int j=>decide (i=j)
 |.str i _,.str j=>decide (i=j)
 |_,_=>false
def j6:LU->LD->Bool
 |[],[]=>true
 |u::us,d::ds=>vn u d && j6 us ds
 |_,_=>false
theorem kM {K:Frag}{B:Hp}:∀ {u:Value}{d:D},vn u d=true->∃v,aY v u/\Is K B v d
 |.none,.non,_=>⟨.non,rfl,.non⟩
 |.bool a,.bl b,h=>by
  have:a=b:=eq_of_beq h;subst this;exact⟨.bl a,rfl,.bl a⟩
 |.int i t,.int j,h=>by
  have:i=j:=OH h;subst this;exact⟨.int i,⟨t,rfl⟩,.int i⟩
 |.str i t,.str j,h=>by
  have:i=j:=OH h;subst this;exact⟨.str i,⟨t,rfl⟩,.str i⟩
theorem j7 {K:Frag}:∀ {us:LU}{ds:LD},j6 us ds=true->∃vs,L2.ba vs us/\∀B,IsL K B vs ds
 |[],[],_=>⟨[],.nil,λ_=>.nil⟩
 |u::us,d::ds,h=>by
  rw[j6,vC]at h;obtain⟨vs,r,i⟩:=j7 (K:=K) h.2;obtain⟨v,M,_⟩:=kM (K:=K) (B:=λ_=>none) h.1;refine⟨v::vs,.cons M r,λB=>?_⟩;obtain⟨T,G,U⟩:=kM (K:=K) (B:=B) h.1;have:T=v:=by have O:=M.abs;rw[G.abs]at O;exact vK O
  subst this;exact .cons U (i B)
def const_tup {K:Frag}{y:Str}{a:Addr}{od:Option Addr}{its:AV}{n:Nat}{oA:Array (Option Value)}{ds:LD}(e:nsIn K mainGlobals y=some (some (.ref a)))
  (l:K.lookup a=some ⟨.type "tuple",od,.seq its n,oA⟩) (h:(decide (its.size<=1000) && j6 its.toList ds)=true):∃u v,nsIn K mainGlobals y=some (some u)/\aY v u/\∀B,Is K B v (.tup ds):=by
 rw[vC]at h;obtain⟨vs,r,i⟩:=j7 (K:=K) h.2;exact⟨_,.ref a,e,rfl,λB=>.tup (.inr ⟨_,its,n,l,rfl,rfl,le_of_lt (lt_of_le_of_lt (OH h.1) (by decide)),r⟩) (i B)⟩
end
section
variable {X:Cx}{a b o e:Expr}{pos:Pos}{x:Str}{p:Pos}{tg:Expr}
def L9 {name:Str}{id:String}{di cx:Pos}{op:D->D->OB}{fo fe:FE}(slot:Slot "str" name id)(Rj:typeOf (.builtin id)=pure (.type "method_descriptor"))
  (hm:GP X id (λx xs H Q=>∃y,xs=[y]/\rD X.K op x y H Q)) (U:∀dx dy r,op dx dy=some r->∃z,dx=.str z) (ho:JE X o fo) (he:JE X e fe)
  (G:attributeBase o name X.env (eval o X.env)=eval o X.env:=by rfl)
  (Rv:((backTo cx (starEach [e] X.env)).all (λx=>!x.1) && (backToKw cx (keywordEach [] X.env)).all (λx=>x.1.isSome)
   && decide ([e].length+([]:List Keyword).length+(if([]:List Keyword).isEmpty then 0 else 1)<30))=true:=by rfl)
  (M:(di.endLine == cx.line)=true:=by rfl) (hs:starEach [e] X.env=[(false,eval e X.env)]:=by rfl):
  JE X (.Call (.Attribute o name di) [e] [] cx) (f2 op fo fe):=by
 refine PE.to (A9 PySem.F.plainAttrs_str slot Rj hm ho (gN he jy hs) G Rv M hs rfl) λσ H Q q=>?_;obtain⟨B,ρ,d,bb,sB,r,T,q⟩:=q;obtain⟨x1,ex,T⟩:=oX T;obtain⟨y1,ey,T⟩:=oX T;obtain⟨z,hz⟩:=U _ _ _ T;refine⟨B,ρ,x1.1,x1.2,sB,r,ex,λv H1 N1 O i1 _=>?_⟩;rw[hz]at i1;cases i1
 refine⟨show "str" = "str" from rfl,N1,ρ,y1.1,y1.2,O.nh,r.mono O.bn,ey,λv2 H2 N2 OX i2 _=>⟨v2,rfl,N2,.str z,y1.1,d,bb,OX.nh,.str z,i2,by rw[←hz];exact T,q.into (O.trans OX)⟩⟩
@[simp] noncomputable def LA:D->Option Str
 |.str z=>some z
 |_=>none
def iD:LD->Option LS
 |[]=>some []
 |d::ds=>(LA d).bind λz=>(iD ds).map (z :: ·)
@[simp] def MG:iD []=some []:=rfl
@[simp] def zI (d:D)(ds:LD):iD (d::ds)=(LA d).bind λz=>(iD ds).map (z :: ·):=rfl
@[simp] def MH (zs:LS):iD (zs.map D.str)=some zs:=by
 induction zs with
 |nil=>rfl
 |cons z zs G=>simp[G]
theorem jX {K:Frag}{B:Hp}:∀ {vs:LV}{ds:LD}{zs:LS}{its:LU},L2.ba vs its->IsL K B vs ds->iD ds=some zs->StrsAre its zs
 |_,_,_,_,.nil,.nil,e=>by cases e;exact .nil
 |_,_,_,_,.cons r M,.cons i O,e=>by
  rw[zI]at e;obtain⟨z,G,e⟩:=oX e;obtain⟨zs,e2,e⟩:=oY e;subst e;cases i<;>simp only[LA]at G<;>try (cases G;done)
  cases G
  obtain⟨t,rfl⟩:=r;exact .cons _ t (jX M O e2)
@[simp] def nV:D->D->OB
 |.str G,.lst ds=>(iD ds).bind λzs=>if(zs.map (·.length)).sum+zs.length*G.length<=16777216 then some (.str (Txt.join G zs),false)else none
 |.str G,.tup ds=>(iD ds).bind λzs=>if(zs.map (·.length)).sum+zs.length*G.length<=16777216 then some (.str (Txt.join G zs),false)else none
 |_,_=>none
def LB:GP X "str.join" (λx xs H Q=>∃y,xs=[y]/\rD X.K nV x y H Q):=by
 intro ae s σ H x xs v us Q I rx rs h;obtain⟨y,rfl,B,dx,dy,d,bb,M,ix,iy,G,q⟩:=h;obtain⟨u1,rfl,r1⟩:=gI rs;cases ix<;>(try (simp[nV]at G;done))
 obtain⟨t,rfl⟩:=rx;cases iy<;>(try (simp[nV]at G;done))
 ·rename_i h hl;simp only[nV]at G;obtain⟨zs,O,G⟩:=oX G;split at G
  ·rename_i hok;cases G
   cases r1
   obtain⟨its,T,U,z1⟩:=I.tuple (bz M h);exact join_tuple U (by simpa using jX T hl O) hok λt' k=>⟨.str _,H,I.tok k,⟨t',rfl⟩,q.one M (.str _)⟩
  ·cases G
 ·rename_i h hl;simp only[nV]at G;obtain⟨zs,O,G⟩:=oX G;split at G
  ·rename_i hok;cases G
   cases r1
   obtain⟨its,T,U,z1⟩:=I.list (M.seq h);exact join_list U.isList (by simpa using jX T hl O) hok λt' k=>⟨.str _,H,I.tok k,⟨t',rfl⟩,q.one M (.str _)⟩
  ·cases G
def Ex (dx G:D)(r:D×Bool)(h:nV dx G=some r):∃z,dx=.str z:=by
 cases dx<;>first|exact⟨_,rfl⟩|(cases G<;>simp[nV]at h)
noncomputable def gK:LN->LD->Env->Option Env
 |[],[],ρ=>some ρ
 |i::is,d::ds,ρ=>gK is ds (ρ.set i (some (d,false)))
 |_,_,_=>none
@[simp] def sY (ρ:Env):gK [] [] ρ=some ρ:=by rw[gK]
@[simp] def lD (i:Nat)(is:LN)(d:D)(ds:LD)(ρ:Env):gK (i::is) (d::ds) ρ=gK is ds (ρ.set i (some (d,false))):=by rw[gK]
@[simp] def Og (d:D)(ds:LD)(ρ:Env):gK [] (d::ds) ρ=none:=by simp only[gK]
@[simp] def Oh (i:Nat)(is:LN)(ρ:Env):gK (i::is) [] ρ=none:=by simp only[gK]
@[simp] def JP (is:LN):FG:=λd ρ=>match d with|.tup ds=>gK is ds ρ|_=>none
def pJ:LN->KA
 |[]=>Np
 |i::is=>Jx (ja i) (pJ is)
def Ey:bc (dz N (own σ ρ)) (dz N (own (σ.set i (some v)) (ρ.set i (some (d,false))))):=dL λa u e q=>⟨e,λz=>q (by
 rcases uC z with⟨_,d',p⟩|⟨j,_,d',G,M⟩
 ·cases p
 ·exact⟨j,d',G,M⟩)⟩
theorem sZ {K:Frag}:∀ {is:LN}{vs:LV}{ds:LD}{B0 H0 N H:Hp}{σ:St}{ρ ρ':Env}{Q:St->Hp->Prop},eB K B0 H0 N H σ ρ->IsL K (dz N (own σ ρ)) vs ds->gK is ds ρ=some ρ'->(∀G,eB K B0 H0 N H G ρ'->Q G H)->pJ is vs σ H Q
 |[],_,_,_,_,_,_,_,_,_,_,s,.nil,e,k=>by
  rw[sY]at e;cases e;exact⟨rfl,k _ s⟩
 |[],_,_,_,_,_,_,_,_,_,_,_,.cons _ _,e,_=>by simp at e
 |_::_,_,_,_,_,_,_,_,_,_,_,_,.nil,e,_=>by simp at e
 |i::is,_,_,_,_,_,_,_,_,_,_,s,.cons h hs,e,k=>by
  rw[lD]at e;exact⟨_,_,rfl,sZ (s.bind h) (hs.mono Ey) e k⟩
theorem no:∀ {is:LN}{ds:LD}{ρ ρ':Env},gK is ds ρ=some ρ'->ds.length=is.length
 |[],[],_,_,_=>rfl
 |_::_,_::_,_,_,e=>by rw[lD]at e;simp[no e]
 |[],_::_,_,_,e=>by simp at e
 |_::_,[],_,_,e=>by simp at e
def Oi {K:Frag}{is:LN}:Hf K (JP is) (KG K is.length (pJ is)):=by
 intro B0 H0 N H σ ρ ρ' v d Q s h e k;cases h with
 |@tup a vs ds O hl=>
  have M:gK is ds ρ=some ρ':=e;exact⟨a,vs,rfl,bz (bJ.trans s.ext.nh) O,by rw[hl.length];exact no M,sZ s hl M λG s'=>k G H ⟨N,s'⟩⟩
 |_=>cases e
theorem tj {K:Frag}{n:Nat}{B H:Hp}{M:Env}{Q:St->Hp->Prop}(cl:∀i,i<n->M[i]? = some none):∀ {is:LN}{vs:LV}{ds:LD}{σ:St}{ρ O:Env},(∀i∈is,i<n)->fR K B σ ρ->IsL K B vs ds->gK is ds ρ=some O->ρ.length=σ.length->ρ.length=M.length ->
  (∀G,fR K B G O->(∀U,fR K U σ M->fR K U G M)->M.length=G.length->Q G H)->pJ is vs σ H Q
 |[],_,_,_,_,_,_,rp,.nil,e,l1,l2,k=>by
  rw[sY]at e;cases e;exact⟨rfl,k _ rp (λ_ z=>z) (by omega)⟩
 |[],_,_,_,_,_,_,_,.cons _ _,e,_,_,_=>by simp at e
 |_::_,_,_,_,_,_,_,_,.nil,e,_,_,_=>by simp at e
 |i::is,_,_,σ,ρ,_,hn,rp,.cons (v:=v) h hs,e,l1,l2,k=>by
  rw[lD]at e;have hi:=hn i mX;have T:i<σ.length:=by
   have:=(vV (cl i hi)).1;omega
  refine⟨_,_,rfl,tj cl (λj hj=>hn j (mZ _ hj)) ⟨rp.tb,λj d b q=>?_⟩ hs e (by simpa using l1) (by simpa using l2) λG r1 r2 l=>k G r1 (λU z=>r2 U ⟨z.tb,λj d b q=>?_⟩) l⟩
  ·rcases cm q with⟨rfl,pp⟩|⟨ne,pp⟩
   ·cases pp
    exact⟨v,by simp[T],h⟩
   ·obtain⟨w,h1,h2⟩:=rp.at' j d b pp;exact⟨w,by rw[vB ne];exact h1,h2⟩
  ·obtain⟨w,h1,h2⟩:=z.at' j d b q;have ne:i≠j:=λz=>by subst z;rw[cl i hi]at q;cases q
   exact⟨w,by rw[vB ne];exact h1,h2⟩
def JQ {K:Frag}{n:Nat}{is:LN}(hn:∀i∈is,i<n):JF K n (JP is) (KG K is.length (pJ is)):=by
 intro B H σ ρ G v d Q cl rep s h e hl k;cases h with
 |@tup a vs ds O hv=>
  have M:gK is ds ρ=some G:=e;exact⟨a,vs,rfl,bz s O,by rw[hv.length];exact no M,tj cl hn rep hv M hl rfl k⟩
 |_=>cases e
end
section
variable {prog:Program}{w:World}{A:Around}{E:QV}{s:Shared}
def zJ (st:s.heap.IsTupleIter it l i)(G:s.heap.IsTuple l items)(hv:items[i]? = some v)
  (k:∀h',h'.IsTupleIter it l (i+1)->Heap.SameBut it s.heap h'->Q v { s with heap:=h' }):wpAny (model prog w) A (Builtin.SmallTypes.nextOf (.ref it)) Q E s:=by
 obtain⟨O,g1,c1,d1⟩:=id st;obtain⟨T,M,_,n2,d2⟩:=G;unfold Builtin.SmallTypes.nextOf;refine wX (wpAny_callSpecial?_slot (name:=Str.ofString "__next__") st.typeIs slot_tuple_iterator_next (wpAny_call_entry slot_tuple_iterator_next st.typeIs PySem.F.entry_tuple_iterator_next ?_ (PySem.F.args_tuple_iterator_next_1 _)));show wpAny _ _ (field (.ref it) 0>>=_) _ _ _;refine wX (wpAny_field g1 d1 (x:=.ref l) rfl ?_);show wpAny _ _ (if(Value.ref l == Value.none)=true then _ else _) _ _ _;rw[if_neg (λz=>uX z:¬((Value.ref l == Value.none)=true))];show wpAny _ _ (field (.ref it) 1>>=_) _ _ _;refine wX (wpAny_field g1 d1 (x:=.int i 0) rfl ?_);show wpAny _ _ (seqItems? (.ref l)>>=_) _ _ _;refine wX (wpAny_seqItems M d2 ?_);simp only[hv,toNat_natCast];refine wX (wpAny_setField g1 d1 (by simp) (wY ⟨v,rfl,wY (k _ ?_ (vW ..))⟩));exact⟨_,Heap.get?_update_self _ g1 (Obj.isFreed_of_fields (Obj.data_mapFields d1 _)),(Obj.cls_mapFields ..).trans c1,by rw[Obj.data_mapFields d1];simp[rawInt]⟩
def C8 (G:A.handled=none)(st:s.heap.IsTupleIter it l i)(M:s.heap.IsTuple l items)(hv:items[i]? = none)
  (k:∀h' x,Heap.ExtBut it s.heap h'->(∃o,h'.get? x=some o/\o.cls=.type "StopIteration")->E (.ref x) { s with heap:=h' }):wpAny (model prog w) A (Builtin.SmallTypes.nextOf (.ref it)) Q E s:=by
 obtain⟨T,g1,c1,d1⟩:=id st;obtain⟨U,O,_,n2,d2⟩:=M;unfold Builtin.SmallTypes.nextOf;refine wX (wpAny_callSpecial?_slot (name:=Str.ofString "__next__") st.typeIs slot_tuple_iterator_next (wpAny_call_entry slot_tuple_iterator_next st.typeIs PySem.F.entry_tuple_iterator_next ?_ (PySem.F.args_tuple_iterator_next_1 _)));show wpAny _ _ (field (.ref it) 0>>=_) _ _ _;refine wX (wpAny_field g1 d1 (x:=.ref l) rfl ?_);show wpAny _ _ (if(Value.ref l == Value.none)=true then _ else _) _ _ _;rw[if_neg (λz=>uX z:¬((Value.ref l == Value.none)=true))];show wpAny _ _ (field (.ref it) 1>>=_) _ _ _;refine wX (wpAny_field g1 d1 (x:=.int i 0) rfl ?_);show wpAny _ _ (seqItems? (.ref l)>>=_) _ _ _;refine wX (wpAny_seqItems O d2 ?_);simp only[hv,toNat_natCast];refine wX (wpAny_rule (wX (wpAny_setField g1 d1 (by simp) ?_)));show wpAny _ _ (newExc (.type "StopIteration") []>>=_) _ _ _;refine wX ?_;simp only[newTuple,newExc];refine wX (wpAny_newObj_type ?_ (by size_fits));refine wX (m:=firstArgMember _ _) (wpAny_of_eq (a:=Value.none) (by first|(simp only[firstArgMember];rfl)|rfl) ?_);refine wpAny_newObj_type ?_ (by size_fits);simp only[raiseNew];refine wX (wpAny_handled ?_);first|rw[G]|rw[show A.in1.handled=none from G]
 exact wX (wY (wpAny_throw (k _ _ (((vW ..).extBut.push _).push _) ⟨_,vY _ rfl,rfl⟩)))
end
def AT:Bool->Heap->Addr->Addr->Nat->Prop
 |true,h,it,a,i=>h.IsListIter it a i
 |false,h,it,a,i=>h.IsTupleIter it a i
def zm:Bool->Heap->Addr->AV->Prop
 |true,h,a,items=>h.IsList a items
 |false,h,a,items=>h.IsTuple a items
def zK (k:Bool)(K:Frag)(H:Hp)(a:Addr)(xs:LV):Prop:=match k with|true=>fT K H a xs|false=>iY K H a xs
def AT.ob (st:AT k h it a i):∃o,h.get? it=some o/\∀v,o.data≠.cell v:=by
 cases k<;>(obtain⟨o,g,_,d⟩:=st;exact⟨o,g,λv z=>by rw[d]at z;cases z⟩)
def AT.upon (st:AT k h it a i)(g:∀o,h.get? it=some o->h'.get? it=some o):AT k h' it a i:=by
 cases k<;>(obtain⟨o,e,r⟩:=st;exact⟨o,g o e,r⟩)
def zm.upon (st:zm k h a items)(g:∀o,h.get? a=some o->h'.get? a=some o):zm k h' a items:=by
 cases k<;>(obtain⟨o,e,r⟩:=st;exact⟨o,g o e,r⟩)
def zm.lt (st:zm k h a items):a<h.objs.size:=by
 cases k<;>(obtain⟨o,e,r⟩:=st;exact vX e)
def zK.same {k:Bool}{K:Frag}{H H':Hp}{a:Addr}{xs:LV}(h:zK k K H a xs)(e:bc H H'):zK k K H' a xs:=by
 cases k
 ·exact bz e h
 ·exact e.seq h
def zK.vals (I:Inv X ae σ H s)(h:zK k X.K H a xs):∃its:LU,ba xs its/\zm k s.heap a its.toArray/\xs.length<=sizeLine:=by
 cases k
 ·exact I.tuple h
 ·obtain⟨its,r,p,z⟩:=I.list h;exact⟨its,r,p.isList,z⟩
def zK.inj (I:Inv X ae σ H s)(h:zK k X.K H a xs)(h':zK k X.K H a ys):xs=ys:=by
 cases k
 ·exact I.tuple_inj h h'
 ·exact I.list_inj h h'
section
variable {prog:Program}{w:World}{A:Around}{E:QV}{s:Shared}
def C9 (st:AT k s.heap it l i)(G:zm k s.heap l items)(hv:items[i]? = some v)
  (q:∀h',AT k h' it l (i+1)->Heap.SameBut it s.heap h'->Q v { s with heap:=h' }):wpAny (model prog w) A (Builtin.SmallTypes.nextOf (.ref it)) Q E s:=by
 cases k
 ·exact zJ st G hv q
 ·exact wpAny_nextOf_list_item st G hv q
def xD (G:A.handled=none)(st:AT k s.heap it l i)(M:zm k s.heap l items)(hv:items[i]? = none)
  (q:∀h' x,Heap.ExtBut it s.heap h'->(∃o,h'.get? x=some o/\o.cls=.type "StopIteration")->E (.ref x) { s with heap:=h' }):wpAny (model prog w) A (Builtin.SmallTypes.nextOf (.ref it)) Q E s:=by
 cases k
 ·exact C8 G st M hv q
 ·exact wpAny_nextOf_list_end G st M hv q
end
noncomputable def LC (k:Bool)(l:Addr):Obj:={ cls:=.type (if k=true then "list_iterator" else "tuple_iterator"),data:=.fields #[.ref l,.int 0 0] }
def vp (G:zm k s.heap l items)
  (q:Q (.ref s.heap.objs.size) { s with heap:=s.heap.push (LC k l) }):wpAny (model prog w) A (pyIter (.ref l)) Q E s:=by
 cases k
 ·exact wpAny_pyIter_tuple G q
 ·exact wpAny_pyIter_list G q
def zm.push (st:zm k h a items)(o:Obj):zm k (h.push o) a items:=st.upon λ_ e=>vZ _ e
def ml {X:Cx}{ae:AO}{σ:St}{H:Hp}{s:Shared}{h':Heap}{t':Nat}{ch:List Addr}(I:Inv X ae σ H s)(f:∀b∈ch,mU X ae H b)(k:∀b o,b∉ch->s.heap.get? b=some o->h'.get? b=some o):Inv X ae σ H { s with heap:=h',toks:=t' }:=by
 have G:∀b u,H b=some u->b∉ch:=λb u e z=>by rw[(f b z).1]at e;cases e
 refine I.step (g':=s.gens) (d':=s.drawn) (ch:=ch) (λb hb=>?_) (λb o _ _ hc e _=>k b o hc e) (λb o _ _ hc e _=>⟨o.slots,k b o hc e⟩) (λ_ _ _ _ n=>n)
  (λb o hc e=>⟨o,k b o hc e⟩) (λ_ _ e=>e) (λ_ _ _ e=>e) (λ_ _ e=>e) (λm hm=>?_) (λb u e=>?_) I.bare
 ·obtain⟨_,f1,_,f3,f4,f5⟩:=f b hb;exact⟨f3,f1,f4,f5⟩
 ·obtain⟨o,es,M,ho,r⟩:=hm;exact⟨o,es,M,k _ o (λz=>(f _ z).2.1 rfl) ho,r⟩
 ·refine(I.hok b u e).stay (λc v hc q=>k c v ?_ q) (λ_ q=>q) (λ_ _ q=>q) λ_ _ _ q=>q;rcases hc with z|z
  ·rw[z];exact G b u e
  ·exact G c _ z
def Ez {X:Cx}{ae:AO}{σ:St}{H:Hp}{s:Shared}{h':Heap}{t':Nat}{ch:List Addr}{a:Addr}{ob:HO}(I:Inv X ae σ H s)(f:∀b∈ch,mU X ae H b)(k:∀b o,b∉ch->s.heap.get? b=some o->h'.get? b=some o)(ha:s.heap.objs.size<=a)
  (new:bT X.prog X.w (upd H a ob) h' a ob):Inv X ae σ (upd H a ob) { s with heap:=h',toks:=t' }:=by
 have hn:H a=none:=I.hok.fresh ha;have G:∀b u,H b=some u->b∉ch:=λb u e z=>by rw[(f b z).1]at e;cases e
 have M:∀b o,s.heap.get? b=some o->b≠a:=λb o e=>vS (vQ (vX e) ha);refine I.step (g':=s.gens) (d':=s.drawn) (ch:=ch) (λb hb=>?_) (λb o _ _ hc e _=>k b o hc e) (λb o _ _ hc e _=>⟨o.slots,k b o hc e⟩) (λb o _ e n=>by rw[aI (M b o e)];exact n)
  (λb o hc e=>⟨o,k b o hc e⟩) (λb xs e=>by rw[aI (bf e hn)];exact e) (λb o u e=>by rw[aI (bf e hn)];exact e) (λb ps e=>by rw[aI (bf e hn)];exact e) (λm hm=>?_) (λb u e=>?_) I.bare
 ·obtain⟨_,f1,_,f3,f4,f5⟩:=f b hb;exact⟨f3,f1,f4,f5⟩
 ·obtain⟨o,es,O,ho,r⟩:=hm;exact⟨o,es,O,k _ o (λz=>(f _ z).2.1 rfl) ho,r⟩
 ·by_cases hb:b=a
  ·subst hb;rw[aC]at e;cases e;exact new
  ·rw[aI hb]at e;refine(I.hok b u e).stay (λc v hc q=>k c v ?_ q) (λc q=>?_) (λc xs q=>?_) λc o xs q=>?_
   ·rcases hc with z|z
    ·rw[z];exact G b u e
    ·exact G c _ z
   ·rw[aI (bf q hn)];exact q
   ·rw[aI (bf q hn)];exact q
   ·rw[aI (bf q hn)];exact q
section
variable {X:Cx}{a b e:Expr}{pos:Pos}{p:Pos}
def Oj:bootBuiltins "zip" = some (.type "zip"):=by decide +kernel
noncomputable def CA (xs ys:LD):LD:=List.zipWith (λx y=>.tup [x,y]) xs ys
def Ol {K:Frag}{B:Hp}{v:V}{d:D}{ds:LD}(h:Is K B v d)(e:jf d=some ds):∃k a vs,v=.ref a/\zK k K B a vs/\IsL K B vs ds:=by
 cases h with
 |tup G hl=>cases e;exact⟨false,_,_,rfl,G,hl⟩
 |lst G hl=>cases e;exact⟨true,_,_,rfl,G,hl⟩
 |_=>cases e
end
noncomputable def unown1 (ρ:Env)(i:Nat):Env:=match ρ[i]? with
 |some (some (d,true))=>ρ.set i (some (d,false))
 |_=>ρ
def eB.unown1 {K:Frag}{B0 H0 N H:Hp}{σ:St}{ρ:Env}(s:eB K B0 H0 N H σ ρ)(i:Nat):eB K B0 H0 N H σ (unown1 ρ i):=by
 unfold DL.unown1;split
 ·rename_i d hd;obtain⟨a,ob,h1,h2,h3,h4⟩:=s.ow i d hd;have get:∀ {j:Nat}{e:D}{b:Bool},(ρ.set i (some (d,false)))[j]? = some (some (e,b))->(i=j/\e=d/\b=false)∨(i≠j/\ρ[j]? = some (some (e,b))):=λq=>by
   rcases cm q with⟨z,p⟩|⟨z,p⟩
   ·cases p;exact .inl ⟨z,rfl,rfl⟩
   ·exact .inr ⟨z,p⟩
  have o:∀c,own σ (ρ.set i (some (d,false))) c->own σ ρ c/\c≠a:=λc ⟨j,e,O,M⟩=>by
   rcases get O with⟨_,_,z⟩|⟨ne,q⟩
   ·cases z
   ·exact⟨⟨j,e,q,M⟩,λz=>by subst z;exact ne (s.inj i j _ _ _ hd q h1 M)⟩
  have c:bc (dz N (own σ ρ)) (dz N (own σ (ρ.set i (some (d,false))))):=dL λb u e q=>⟨e,λz=>q (o b z).1⟩;have T:¬own σ (ρ.set i (some (d,false))) a:=λz=>(o a z).2 rfl;refine⟨s.bh,s.tb,s.ext,by rw[length_set];exact s.len,λj e q=>?_,λj e q=>?_,λj k b e f q G U z2=>?_⟩
  ·rcases get q with⟨rfl,rfl,_⟩|⟨_,q⟩
   ·exact⟨_,h1,(h4.mono c).is (by rw[cX T];exact h2)⟩
   ·obtain⟨v,k1,k2⟩:=s.sh j e q;exact⟨v,k1,k2.mono c⟩
  ·rcases get q with⟨_,_,z⟩|⟨_,q⟩
   ·cases z
   ·obtain⟨a',o',k1,k2,k3,k4⟩:=s.ow j e q;exact⟨a',o',k1,k2,k3,k4.mono c⟩
  ·rcases get q with⟨_,_,z⟩|⟨_,q⟩
   ·cases z
   ·rcases get G with⟨_,_,z⟩|⟨_,G⟩
    ·cases z
    ·exact s.inj j k b e f q G U z2
 ·exact s
@[simp] noncomputable def E1 (is:LN)(g:FS):FS:=λρ=>g (is.foldl unown1 ρ)
theorem eB.unowns {K:Frag}{B0 H0 N H:Hp}{σ:St}:∀(is:LN){ρ:Env},eB K B0 H0 N H σ ρ->eB K B0 H0 N H σ (is.foldl DL.unown1 ρ)
 |[],_,s=>s
 |i::is,_,s=>eB.unowns is (s.unown1 i)
def LF {K:Frag}{is:LN}{g:FS}{E:Ends}{σ:St}{H:Hp}(q:lV K (E1 is g) E σ H):lV K g E σ H:=by
 obtain⟨B0,H0,ρ,r,⟨N,s⟩,e,p⟩:=q;exact⟨B0,H0,_,r,⟨N,s.unowns is⟩,e,p⟩
def mm {X:Cx}{st:Stmt}{g:FS}(is:LN)(h:JS X st g):JS X st (E1 is g):=PS.to h λ_ _ _ q=>LF q
@[simp] noncomputable def JR:FS:=λρ=>some (.ct ρ)
section
variable {X:Cx}{pos:Pos}
def HB:JS X (.Continue pos) JR:=PS.to wR λE σ H q=>by
 obtain⟨B0,H0,ρ,r,s,e,p⟩:=q;cases e
 exact p σ H s
end
inductive CRows (K:Frag)(P:Params):List DictEntry->List (Str×D)->Prop where
 |nil:CRows K P [] []
 |tup {x:Str}{t:Tok}{h:Int}{a:Addr}{its:Array Value}{n:Nat}{oA:Array (Option Value)}{ds:List D}{r:List DictEntry}{aN:List (Str×D)}(hh:h=PyData.keyHash P x)
   (l:K.lookup a=some ⟨.type "tuple",none,.seq its n,oA⟩) (f:(decide (its.size<=1000) && j6 its.toList ds)=true) (tl:CRows K P r aN):CRows K P (⟨h,.str x t,.ref a⟩::r) ((x,.tup ds)::aN)
 |flat {x:Str}{t:Tok}{h:Int}{u:Value}{d:D}{r:List DictEntry}{aN:List (Str×D)}(hh:h=PyData.keyHash P x) (f:vn u d=true) (tl:CRows K P r aN):CRows K P (⟨h,.str x t,u⟩::r) ((x,d)::aN)
theorem CRows.lit {K:Frag}{P:Params}:∀ {es:List DictEntry}{aN:List (Str×D)},CRows K P es aN->PySem.W.KeysLit P es
 |_,_,.nil=>trivial
 |_,_,.tup hh _ _ tl=>⟨⟨_,_,rfl,hh⟩,tl.lit⟩
 |_,_,.flat hh _ tl=>⟨⟨_,_,rfl,hh⟩,tl.lit⟩
def tm (K:Frag)(P:Params)(a:Addr)(aN:List (Str×D)):Prop:=∃es n,K.lookup a=some ⟨.type "dict",none,.dict es n,#[]⟩/\CRows K P es.toList aN/\(a == sysModules)=false
def const_dict {K:Frag}{P:Params}{y:Str}{a:Addr}{es:Array DictEntry}{n:Nat}{aN:List (Str×D)}(e:nsIn K mainGlobals y=some (some (.ref a)))(l:K.lookup a=some ⟨.type "dict",none,.dict es n,#[]⟩)(r:CRows K P es.toList aN)(s:(a == sysModules)=false):
  ∃a,nsIn K mainGlobals y=some (some (.ref a))/\tm K P a aN:=⟨a,e,es,n,l,r,s⟩
section
variable {X:Cx}{a b e:Expr}{pos:Pos}{x:Str}{p:Pos}
@[simp] noncomputable def gs:LD->OB
 |[.lst ds]=>some (.lst ds,true)
 |[.tup ds]=>some (.lst ds,true)
 |_=>none
@[simp] noncomputable def g7:LD->OB
 |[.lst ds]=>some (.tup ds,false)
 |[.tup ds]=>some (.tup ds,false)
 |_=>none
def zL:bW X (.type "list") (AD X.K gs):=by
 refine bW.to u5 λxs H Q q=>?_;obtain⟨B,ds,d,bb,O,i,G,q⟩:=q;cases i with
 |nil=>simp[gs]at G
 |cons T U=>
  cases U with
  |cons _ _=>cases T<;>simp[gs]at G
  |nil=>
   cases T<;>try (simp[gs]at G;done)
   ·rename_i l0 vs es h hl;simp only[gs]at G;cases G
    refine⟨_,_,rfl,.inr (bz O h),λl hp=>?_⟩;have M:=Ext.laid (o:=.lst vs) O hp;exact q _ _ _ M (.lst (fT.of aC) (hl.mono M.bn)) λ_=>⟨_,_,_,rfl,rfl,hp,aC,hl.mono M.bn⟩
   ·rename_i l0 vs es h hl;simp only[gs]at G;cases G
    refine⟨_,_,rfl,.inl (O.seq h),λl hp=>?_⟩;have M:=Ext.laid (o:=.lst vs) O hp;exact q _ _ _ M (.lst (fT.of aC) (hl.mono M.bn)) λ_=>⟨_,_,_,rfl,rfl,hp,aC,hl.mono M.bn⟩
def HC:bW X (.type "tuple") (AD X.K g7):=by
 refine bW.to rX λxs H Q q=>?_;obtain⟨B,ds,d,bb,M,i,G,q⟩:=q;cases i with
 |nil=>simp[g7]at G
 |cons O U=>
  cases U with
  |cons _ _=>cases O<;>simp[g7]at G
  |nil=>
   cases O<;>try (simp[g7]at G;done)
   ·rename_i l0 vs es h hl;simp only[g7]at G;cases G
    exact⟨_,_,rfl,.inr ⟨bz M h,q.one M (.tup h hl)⟩⟩
   ·rename_i l0 vs es h hl;simp only[g7]at G;cases G
    refine⟨_,_,rfl,.inl ⟨M.seq h,λl hp=>?_⟩⟩;have T:=Ext.laid (o:=.tup vs) M hp;exact q _ _ _ T (.tup (iY.of aC) (hl.mono T.bn)) (by simp)
end
section
variable {X:Cx}{a b e:Expr}{pos:Pos}{x:Str}{p:Pos}
@[simp] def zM (i:Nat)(G M:FE):FS:=λρ=>match ρ[i]? with
 |some (some (.lst ds,true))=>(M ρ).bind λv=>(G ρ).bind λk=>match k.1 with
  |.int j=>(Cs ds.length j).bind λn=>if bx v.1=true then some (.nx (ρ.set i (some (.lst (ds.set n v.1),true))))else none
  |_=>none
 |_=>none
def E2 (hv:JE X e fv)(hk:JE X k fk)(hN:X.N[i]? = some y:=by rfl)(M:Kx X.env.scope y:=by first|exact Or.inl rfl|exact Or.inr (Or.inl rfl)|exact Or.inr (Or.inr rfl))(hd:(y == ("__debug__" : Str))=false:=by decide)
  (T:(y == ("__classdict__" : Str))=false:=by decide)
  (ha:∀v,assign (.Subscript (.Name y py) k pt) X.env v=(do
   let O ←holding [v] (eval (.Name y py) X.env)
   let iv ←holding [v,O] (eval k X.env)
   standAt pt
   holding [v,O,iv] (setItem O iv v)
   release [v,O,iv] []):=by intro _;rfl)
  (hs:swapsWithSole [.Subscript (.Name y py) k pt] e pos.line X.env=pure false:=by rfl) (hw:swappedStores [.Subscript (.Name y py) k pt] e X.env=pure none:=by rfl)
  (h1:(assignEach [.Subscript (.Name y py) k pt] X.env).map (·.2)=[assign (.Subscript (.Name y py) k pt) X.env]:=by rfl):JS X (.Assign [.Subscript (.Name y py) k pt] e pos) (zM i fk fv):=by
 refine PS.to (KI hv (KH (px hN M hd T) hk DQ ha) hs hw h1) λE σ H q=>?_;obtain⟨B0,H0,ρ,r,⟨N,s⟩,G,p⟩:=q;unfold zM at G;split at G
 ·rename_i ds ei;obtain⟨v,ev,G⟩:=oX G;obtain⟨kk,ek,G⟩:=oX G;obtain⟨kd,kb⟩:=kk;cases kd with
  |int j=>
   dsimp only at G;obtain⟨n,en,G⟩:=oX G;split at G
   ·rename_i hn;cases G
    refine⟨N,ρ,v.1,v.2,s.ext.nh,s.rep,ev,λv1 H1 N1 x1 i1 _=>?_⟩;have s1:=s.grow x1;obtain⟨l,vs,U,z,h1,h2,h3,h4⟩:=s1.owL i _ ei;cases z
    refine⟨_,h1,N1,ρ,_,_,s1.ext.nh,s1.rep,ek,λkv H2 N2 x2 i2 _=>?_⟩;cases i2
    have s2:=s1.grow x2;obtain⟨l',Rw,U,z,k1,k2,k3,k4⟩:=s2.owL i _ ei;cases z
    rw[h1]at k1;cases k1;exact⟨l,Rw,j,n,rfl,rfl,s2.ext.nh _ _ k2,by rw[k4.length];exact en,p σ _ ⟨_,s2.write ei h1 (IsL.set (s2.flat (i1.mono x2.bn) hn) n k4)⟩⟩
   ·cases G
  |_=>cases G
 ·cases G
@[simp] def U8 (i:Nat)(f:FE):FS:=λρ=>match ρ[i]? with
 |some (some (.lst ds,true))=>(f ρ).bind λx=>match x.1 with
  |.lst es=>if x.2=true/\bH es=true/\ds.length+es.length<=sizeLine then some (.nx (ρ.set i (some (.lst (ds++es),true))))else none
  |_=>none
 |_=>none
@[simp] noncomputable def zN:LD->OB
 |[.int i]=>some (.int i,false)
 |[.bl b]=>some (.int (if b then 1 else 0),false)
 |_=>none
def Om:bW X (.type "int") (AD X.K zN):=by
 refine bW.to Cp λxs H Q q=>?_;obtain⟨B,ds,d,bb,M,i,G,q⟩:=q;cases i with
 |nil=>simp[zN]at G
 |cons O T=>
  cases T with
  |cons _ _=>cases O<;>simp[zN]at G
  |nil=>
   cases O<;>try (simp[zN]at G;done)
   ·simp only[zN]at G;cases G
    exact .inr ⟨_,rfl,q.one M (.int _)⟩
   ·simp only[zN]at G;cases G
    exact .inl ⟨_,rfl,q.one M (.int _)⟩
end
open AutoSeq1 (wpAny_loadPart')
set_option maxRecDepth 100000
noncomputable def S8 (k:Bool):String:=if k=true then "list" else "tuple"
def xE (k:Bool)(l:Addr)(items:AV)(n:Nat)(G:Option Addr)(sl:Array (Option Value)):
  Meets (Builtin.«enumerate.__new__» ⟨[.type "enumerate",.ref l],[]⟩) (λ_ R s=>s.heap.get? l=some { cls:=.type (S8 k),dict:=G,data:=.seq items n,slots:=sl } /\
   R (.ok (.ret (.ref (s.heap.push (LC k l)).objs.size))) { s with heap:=(s.heap.push (LC k l)).push { cls:=.type "enumerate",data:=.fields #[.none,.bool false,.ref s.heap.objs.size,rawInt 0,.none,.none] } }) :=
 .of_wp λprog w A R s hs=>by
  obtain⟨hp,g,d,tk,os⟩:=s;obtain⟨hl,hs⟩:=hs;have O:=sub_enumerate;have M:zm k (Shared.heap ⟨hp,g,d,tk,os⟩) l items:=by cases k<;>exact⟨_,hl,rfl,n,rfl⟩
  wp_walk using wpAny_loadPart' hl;refine wpAny_stack_any λst=>wY ?_;split
  ·rename_i c _ _ _ _ _;cases (c == Value.type "enumerate")
   ·wp_walk using wpAny_loadPart' hl,vp M;exact⟨_,rfl,hs⟩
   ·wp_walk using wpAny_loadPart' hl,vp M;exact⟨_,rfl,hs⟩
  ·wp_walk using wpAny_loadPart' hl,vp M;exact⟨_,rfl,hs⟩
section
variable {prog:Program}{w:World}{A:Around}{E:QV}{s:Shared}
def E3 (O:zm k s.heap l items)
  (q:∀h',IsEnum h' (s.heap.objs.size+1) s.heap.objs.size 0 .none->AT k h' s.heap.objs.size l 0->(∀b o,s.heap.get? b=some o->h'.get? b=some o)->Q (.ref (s.heap.objs.size+1)) { s with heap:=h' }):
  wpAny (model prog w) A (call (.type "enumerate") [.ref l]) Q E s:=by
 have hh:∃(G:Option Addr)(sl:Array (Option Value))(n:Nat),s.heap.get? l=some { cls:=.type (S8 k),dict:=G,data:=.seq items n,slots:=sl }:=by
  cases k<;>(obtain⟨⟨c,G,dt,sl⟩,hl,hc,n,hd⟩:=O;dsimp only at hc hd;subst hc;subst hd;exact⟨G,sl,n,hl⟩)
 obtain⟨G,sl,n,hl⟩:=hh;refine callType_new PySem.F.called_enumerate (by decide) (PySem.F.typeCall_enumerate_1 _) (PySem.F.newCall_enumerate_1 _) (λobj=>PySem.F.args_object_init_2 obj _) PySem.F.entry_enumerate_new (xE k l items n G sl) ⟨hl,?_⟩;have n1:(s.heap.push (LC k l)).objs.size=s.heap.objs.size+1:=Heap.size_push ..;have M:((s.heap.push (LC k l)).push { cls:=.type "enumerate",data:=.fields #[.none,.bool false,.ref s.heap.objs.size,rawInt 0,.none,.none] }).get? (s.heap.push (LC k l)).objs.size=some _:=vY _ rfl;have g1:((s.heap.push (LC k l)).push { cls:=.type "enumerate",data:=.fields #[.none,.bool false,.ref s.heap.objs.size,rawInt 0,.none,.none] }).get? s.heap.objs.size=some _:=vZ _ (vY _ (by cases k<;>rfl))
 rw[n1]at M;show _/\_;rw[n1];refine⟨⟨_,M,rfl⟩,q _ M ?_ λb o e=>vZ _ (vZ _ e)⟩;cases k<;>exact⟨_,g1,rfl,rfl⟩
def LG (U:A.handled=none)(it l:Addr)(G:l≠it)(items:AV):Draws prog w A it [it,l] items.size (λi v=>items[i]? = some v) (λi h=>AT k h it l i/\zm k h l items) where
 live:=λi h st=>let ⟨o,e,_⟩:=st.1.ob;⟨o,e⟩
 frame:=λi h h' st O=>⟨st.1.upon λo e=>O it (by simp) o e,st.2.upon λo e=>O l (by simp) o e⟩
 item:=λi s Q E hi st q=>C9 st.1 st.2 (v:=items[i]) (by simp[hi]) λh' M T=>q _ h' s.toks (by simp[hi]) ⟨M,st.2.upon λo e=>T.extBut _ _ G e⟩ T
 done:=λs Q E st q=>xD U st.1 st.2 (by simp) q
def LH (M:A.handled=none)(it l:Addr)(items:AV)(n:Nat)(hn:items[n]? = none):Draws prog w A it [it,l] n (λ_ _=>True) (λi h=>(AT k h it l i/\zm k h l items)/\i=n) where
 live:=λi h st=>let ⟨o,e,_⟩:=st.1.1.ob;⟨o,e⟩
 frame:=λi h h' st G=>⟨⟨st.1.1.upon λo e=>G it (by simp) o e,st.1.2.upon λo e=>G l (by simp) o e⟩,st.2⟩
 item:=λi s Q E hi st q=>absurd st.2 (vS hi)
 done:=λs Q E st q=>xD M st.1.1 st.1.2 hn q
end
noncomputable def QF (K:Frag)(k:Bool)(a:Addr):It :=
  ⟨λi H=>∃xs x,zK k K H a xs/\xs[i]? = some x,
   λi H v H'=>∃T x,v=.ref T/\H T=none/\H'=upd H T (.tup [.int i,x])/\∀xs,zK k K H a xs->xs[i]? = some x,
   λi H=>∃xs,zK k K H a xs/\xs.length<=i⟩
def CB {P:Program}{w:World}{K:Frag}{es:QD}{kt:Nat}{pt:Pos}{k:Bool}{a e it:Addr}(O:e≠it)(VC:a≠e)(VD:a≠it):
  Turn P w K (.Tuple es kt pt) (QF K k a) [e,it] e (λi h=>(∃G,IsEnum h e it i G)/\AT k h it a i) where
 mem:=by simp
 obj:=λi h st b hb=>by
  obtain⟨⟨G,he⟩,M⟩:=st;simp at hb;rcases hb with rfl|rfl
  ·exact⟨_,he,λv z=>by cases z⟩
  ·exact M.ob
 keep:=λi h h' st kk=>by
  obtain⟨⟨G,he⟩,M⟩:=st;exact⟨⟨G,kk e (by simp) _ he⟩,M.upon λo q=>kk it (by simp) o q⟩
 item:=by
  intro X hP hw hK hc i ae s σ H E I hf st hg;subst hP hw hK;obtain⟨⟨G,he⟩,M⟩:=st;obtain⟨xs,x,q1,hx⟩:=hg;obtain⟨its,r1,p1,z1⟩:=q1.vals I;obtain⟨u,hu,ru⟩:=r1.get hx;have fresh:H s.heap.objs.size=none:=I.hok.fresh (vT _);have VE:i<its.toArray.size:=by rw[vH];exact(vV hu).1
  have U:e≠s.heap.objs.size:=vS (vX he);have VF:it≠s.heap.objs.size:=by obtain⟨o,q,_⟩:=M.ob;exact vS (vX q)
  refine wpAny_pyNext_enum_itemD (LG (A:=X.A.in1) (I.ok.hd hc) it a VD its.toArray) he ⟨M,p1⟩ VE O (by simp[O,VC.symm]) λv h' tk hv ho OY hT hsz hk=>?_;have ev:v=u:=by
   have Tu:its[i]? = some v:=by simpa using hv
   rw[hu]at Tu;exact(vK Tu).symm
  subst ev;refine⟨_,rfl,wpAny_letOwnedTupleGo_enum (s:={ s with heap:=h',toks:=tk+1 }) ho λh2 MQ s2=>?_⟩;have T:Heap.SameBut e h' h2:=s2;have kk:∀b o,b∉[e,it]->s.heap.get? b=some o->h2.get? b=some o:=λb o hb q=>T.extBut _ _ (λz=>hb (by simp[z])) (hk b o (λz=>hb (by simp[z])) (λz=>hb (by simp[z])) q);have new:bT X.prog X.w (upd H s.heap.objs.size (.tup [.int i,x])) h2 s.heap.objs.size (.tup [.int i,x]):=⟨by show 2<=sizeLine;decide,[.int i tk,v],.cons ⟨tk,rfl⟩ (.cons ru .nil),⟨_,T.extBut _ _ U.symm hT,rfl,_,rfl⟩⟩;refine⟨.ref s.heap.objs.size,upd H s.heap.objs.size (.tup [.int i,x]),Ez (s:=s) (t':=tk+1) I hf kk (vT _) new,rfl,⟨_,x,rfl,fresh,rfl,λzs hq=>by rw[zK.inj I hq q1];exact hx⟩,?_,λb hb=>?_⟩
  ·exact⟨⟨_,by have:=MQ;rw[show((i:Int)+1)=((i+1:Nat):Int) by omega]at this;exact this⟩,OY.1.upon λo q=>T.extBut _ _ O.symm q⟩
  ·have D8:b≠s.heap.objs.size:=by
    simp at hb;rcases hb with rfl|rfl
    ·exact U
    ·exact VF
   rw[aI D8];exact(hf b hb).1
 done:=by
  intro X hP hw hK hc i ae s σ H E I hf st hg;subst hP hw hK;obtain⟨⟨G,he⟩,M⟩:=st;obtain⟨xs,q1,hl⟩:=hg;obtain⟨its,r1,p1,z1⟩:=q1.vals I;have n1:=r1.length;refine wpAny_pyNext_enum_endD (LH (A:=X.A.in1) (I.ok.hd hc) it a its.toArray i (by simp;omega)) he ⟨⟨M,p1⟩,rfl⟩ λh' hk=>⟨rfl,?_⟩;exact ml (t':=s.toks) I hf λb o hb q=>hk b o (λz=>hb (by simp[z])) q
 self:=λ_ _ _ _ _ st h=>let ⟨⟨_,he⟩,_⟩:=st;wpAny_pyIter_enum he h
section
variable {X:Cx}{a b e:Expr}{pos:Pos}{p:Pos}
def xF:bootBuiltins "enumerate" = some (.type "enumerate"):=by decide +kernel
noncomputable def tp (ds:LD):LD:=ds.mapIdx λi d=>.tup [.int i,d]
@[simp] def E4 (fa:FE):FA:=λρ=>(fa ρ).bind λx=>(jf x.1).map tp
def HD {K:Frag}{N:Hp}{k:Bool}{l:Addr}{vs:LV}{ds:LD}(h1:zK k K N l vs)(M:IsL K N vs ds):nj K (QF K k l) N (tp ds):=by
 intro i H' G;have n1:=M.length;refine⟨λd ed=>?_,λhl=>⟨vs,h1.same G,?_⟩⟩
 ·unfold tp at ed;rw[List.getElem?_mapIdx]at ed;obtain⟨x,e1,rfl⟩:=oY ed;obtain⟨v,O,iv⟩:=M.get e1;refine⟨⟨vs,v,h1.same G,O⟩,λr H2 hy=>?_⟩;obtain⟨T,v',rfl,hT,rfl,f1⟩:=hy;have U:=f1 vs (h1.same G);rw[O]at U;cases U;have xt:=Ext.laid (o:=.tup [.int i,v]) G hT;exact⟨_,xt,.tup (iY.of aC) (.cons (.int _) (.cons (iv.mono xt.bn) .nil))⟩
 ·unfold tp at hl;rw[List.length_mapIdx]at hl;omega
def HE {es:QD}{kt:Nat}{pt:Pos}{fa:FE}(hm:X.mg "enumerate" = none)(ha:JE X a fa)(hg:Gl X "enumerate":=by rfl)(hs:starEach [a] X.env=[(false,eval a X.env)]:=by rfl):
  JI X (.Tuple es kt pt) (.Call (.Name "enumerate" p) [a] [] pos) (E4 fa):=by
 intro ae s σ H R I q;refine Call_ (gX I hg hm xF (PyProof.Rows.callWith_type1 (cn (ah ha ak hs pos ae s σ H (λvs G=>∃(k:Bool)(l:Addr)(us:LV),vs=[.ref l]/\zK k X.K G l us/\R (QF X.K k l) G) I ?_) λus s1 ⟨vs,G,I1,r1,q1⟩=>?_) hs rfl))
 ·obtain⟨B,ρ,ds,sB,r,M,q⟩:=q;obtain⟨x1,ex,M⟩:=oX M;obtain⟨xs,T,M⟩:=oY M;subst M;refine⟨B,ρ,[x1.1],sB,r,by simp[af,aj,ex],λvs G N1 xt i1=>?_⟩;cases i1 with
  |cons j1 j2=>
   cases j2
   obtain⟨k1,l1,us,rfl,s1,m1⟩:=Ol j1 T;exact⟨k1,l1,us,rfl,s1.same xt.nh,q _ G N1 xt (HD s1 m1)⟩
 ·obtain⟨k,l,ws,rfl,h1,q⟩:=q1;obtain⟨u1,rfl,U⟩:=r1.one;cases U
  obtain⟨its,v1,p1,z1⟩:=h1.vals I1;have P5:=p1.lt;refine E3 p1 λh' c1 c2 ck=>?_;refine wpAny_pyIter_enum c1 ⟨s1.heap.objs.size+1,[s1.heap.objs.size+1,s1.heap.objs.size],_,_,G,rfl,I1.kept (t':=s1.toks) ck,
   CB (Nat.succ_ne_self _) (vS (lt_succ_of_lt P5)) (vS P5),⟨⟨_,c1⟩,c2⟩,λb hb=>?_,q⟩
  have O:s1.heap.objs.size<=b:=by
   simp at hb;rcases hb with rfl|rfl
   ·exact le_succ _
   ·exact vT _
  exact I1.fpOk O (I1.hok.fresh O)
end
end DL
namespace DL
open PySem PySem.Spec PyProof.Rows
def CC (t:SetTable)(es:Array (Int×Value))(n:Nat):(relayAll t es n).2.1.led=t.led:=by
 unfold relayAll;split
 ·rename_i t' G h;unfold SetTable.relaid SetTable.laid at h;obtain⟨ow,_,h⟩:=oX h;cases h
  dsimp only;split<;>rfl
 ·rfl
def xG (t:SetTable)(es:Array (Int×Value))(n:Nat)(hp:t.plain=false):(relayAll t es n).2.1.plain=false:=by
 unfold relayAll;split
 ·rename_i t' G h;unfold SetTable.relaid SetTable.laid at h;obtain⟨ow,_,h⟩:=oX h;cases h
  dsimp only;split
  ·exact hp
  ·rfl
 ·rfl
def HF (t:SetTable)(es:Array (Int×Value))(h:Int)(x:Value):(layNew t es h x).2.1.led=t.led:=by
 unfold layNew;split
 ·dsimp only[SetTable.put,SetTable.orStandIn];repeat' (first|rfl|split)
 ·rfl
structure TabT (w:World)(es:Array (Int×Value))(t:SetTable):Prop where
 fits:t.fits es.size=true
 led:t.led = !w.params.followText "set-order"
 plain:es.size≠0->t.plain=false
def iO (prog:Program)(w:World)(h:Heap)(a:Addr)(G:LS):Prop :=
 ∃o es M t,h.get? a=some o/\o.ExactSet/\o.data=.set es M t/\ElemsOf (PySem.strKind prog w) es.toList/\(es.toList.map (λe=>strOf e.2)).Perm G/\G.Nodup/\G.length<scanBound/\TabT w es t
noncomputable def jO (G:LS)(x:Str):LS:=if x∈G then G else G++[x]
def E5 (G:LS)(x:Str):(jO G x).length<=G.length+1:=by unfold jO;split<;>simp
def xH (h:Value.isStrOf k v=true):strOf v=k:=by obtain⟨t,rfl⟩:=Value.isStrOf_shape h;rfl
section
variable {prog:Program}{w:World}{A:Around}{E:QV}{s:Shared}
def tq {es:Array (Int×Value)}{O:LS}(M:ElemsOf (PySem.strKind prog w) es.toList)(hp:(es.toList.map (λe=>strOf e.2)).Perm O)(k:Str):k∈O ↔ ∃e∈es.toList,(PySem.strKind prog w).is k e.2=true:=by
 rw[←hp.mem_iff,List.mem_map];constructor
 ·rintro⟨e,he,rfl⟩;obtain⟨⟨k',hk,_⟩,_⟩:=M e he;have G:Value.isStrOf k' e.2=true:=hk;refine⟨e,he,?_⟩;show Value.isStrOf (strOf e.2) e.2=true;rw[xH G];exact G
 ·rintro⟨e,he,hk⟩;exact⟨e,he,xH hk⟩
def tu {h:Heap}{a:Addr}{o:Obj}{es:Array (Int×Value)}{M:Nat}{t:SetTable}(ho:h.get? a=some o)(hd:o.data=.set es M t)(G:Array (Int×Value))(t':SetTable):
  (h.update a (Obj.putSet G t')).get? a=some { o with data:=.set G (M+1) t' }:=by
 have:=Heap.get?_update_self (Obj.putSet G t') ho (by rw[putSet_of G t' hd];rfl);rw[putSet_of G t' hd]at this;exact this
def xI {g:Bool->Sem Unit}(hg:∀(b:Bool)(U:Shared)(Q':Unit->Shared->Prop),Q' () U->wpAny (model prog w) A (g b) Q' E U)
  {a:Addr}{o:Obj}{es:Array (Int×Value)}{ep:Nat}{t:SetTable}(ho:s.heap.get? a=some o) (Jp:o.ExactSet) (hd:o.data=.set es ep t)
  {G:Array (Int×Value)}{M:SetTable}{ts:LS}(Gp:ElemsOf (PySem.strKind prog w) G.toList) (MT:(G.toList.map (λe=>strOf e.2)).Perm ts) (nd:ts.Nodup)
  (hb1:ts.length<scanBound) (VG:M.fits G.size=true) (Jq:M.led = !w.params.followText "set-order") (Jr:M.plain=false) {O:Bool}{R:Option Bool->Shared->Prop}
  (h:∀h',Heap.SameBut a s.heap h'->iO prog w h' a ts->R (some true) { s with heap:=h' }):
  wpAny (model prog w) A (do
    storeSet a G M
    if(!O && M.tooFull)=true then do
      g (relayAll M G (SetTable.grown G.size)).2.2
      storeSet a (relayAll M G (SetTable.grown G.size)).1 (relayAll M G (SetTable.grown G.size)).2.1
      pure (some true)
     else pure (some true)) R E s:=by
 have Tv:G.size=ts.length:=by rw[←MT.length_eq,vI,vG]
 refine wX (wpAny_storeSet_of ho hd ?_ (fits_of_scanBound (by rw[Tv];exact hb1)));have MU:=tu ho hd G M;have OZ:=vW s.heap a (Obj.putSet G M);split
 ·have hp:=relayAll_perm M G (SetTable.grown G.size);have Rx:=relayAll_fits M G (SetTable.grown G.size);have Js:=CC M G (SetTable.grown G.size);have Ry:=xG M G (SetTable.grown G.size) Jr;generalize hRl:relayAll M G (SetTable.grown G.size)=Rl at hp Rx Js Ry ⊢;obtain⟨T,t3,Tw⟩:=Rl;dsimp only at hp Rx Js Ry ⊢;have Rz:ElemsOf (PySem.strKind prog w) T.toList:=Gp.perm hp;have hsz:T.size=G.size:=by rw[←vG,hp.length_eq,vG]
  refine wX (hg _ _ _ ?_);refine wX (wpAny_storeSet_of MU rfl ?_ (fits_of_scanBound (by rw[hsz,Tv];exact hb1)));have VH:=tu MU rfl T t3;exact wY (h _ (OZ.trans (vW _ a _)) ⟨_,T,_,t3,VH,Jp,rfl,Rz,(hp.map _).trans MT,nd,hb1,Rx,Js.trans Jq,λ_=>Ry⟩)
 ·exact wY (h _ OZ ⟨_,G,_,M,MU,Jp,rfl,Gp,MT,nd,hb1,VG,Jq,λ_=>Jr⟩)
def zO {a:Addr}{U:LS}{k:Str}{tk:Tok}{Q:Bool->Shared->Prop}(hS:iO prog w s.heap a U)(Pa:U.length+1<scanBound)
  (h:∀b h',Heap.SameBut a s.heap h'->iO prog w h' a (jO U k)->Q b { s with heap:=h' }):
  wpAny (model prog w) A (setAddHashed a (.str k tk) ((PySem.strKind prog w).hash k)) Q E s:=by
 have hS0:=hS;obtain⟨o,es,ep,t,ho,Jp,hd,My,G,nd,hb,hf,Jt,Jr⟩:=hS;have Pb:(PySem.strKind prog w).is k (.str k tk)=true:=strKind_is prog w k tk;have sz:es.size=U.length:=by rw[←G.length_eq,vI,vG]
 unfold setAddHashed setAddHashedIn;refine wpAny_holding (wX (wpAny_setState_of ho hd hf ?_));dsimp only;rw[byScan_of (x:=.str k tk) rfl (by rw[sz];exact hb) My];simp only[↓reduceIte];unfold setAddByScan;refine wX ?_;refine wX (wpAny_rule ?_);refine wX (wpAny_setScan_of Pb ho hd hf My ?_);cases hr:List.findIdx? (λe=>(PySem.strKind prog w).is k e.2) es.toList with
 |some j=>
  dsimp only;obtain⟨hj,VI,_⟩:=List.findIdx?_eq_some_iff_getElem.mp hr;have hm:k∈U:=(tq My G k).mpr ⟨es.toList[j],getElem_mem hj,VI⟩;refine wY (wY ?_);have e:jO U k=U:=by unfold jO;rw[if_pos hm]
  exact h false s.heap (Heap.SameBut.refl a s.heap) (by rw[e];exact hS0)
 |none=>
  dsimp only;have hm:k∉U:=λz=>by
   obtain⟨e,he,hp⟩:=(tq My G k).mp z;have:=List.findIdx?_eq_none_iff.mp hr e he;rw[hp]at this;exact Bool.noConfusion this
  have ea:jO U k=U++[k]:=by unfold jO;rw[if_neg hm]
  have VJ:∀(b:Bool){T:Shared}{Q':Unit->Shared->Prop},Q' () T->wpAny (model prog w) A (match b with|true=>rule "set.scan.the-table-gave-way" | false=>pure ()) Q' E T :=
   λb T Q' hq=>by cases b<;>first|exact wY hq|exact wpAny_rule hq
  have M:=layNew_perm t es ((PySem.strKind prog w).hash k) (.str k tk);have O:=layNew_fits t es ((PySem.strKind prog w).hash k) (.str k tk);have Kl:=HF t es ((PySem.strKind prog w).hash k) (.str k tk);generalize hL:layNew t es ((PySem.strKind prog w).hash k) (.str k tk)=L at M O Kl ⊢;obtain⟨Tz,t1,Pc,R0⟩:=L;dsimp only at M O Kl ⊢;rw[toList_push]at M;have Gp:ElemsOf (PySem.strKind prog w) Tz.toList:=(My.push Pb rfl).perm M;have MT:(Tz.toList.map (λe=>strOf e.2)).Perm (U++[k]):=(M.map _).trans (by rw[uW];exact G.append_right _);have T0:(U++[k]).Nodup:=by
   rw[nodup_append];refine⟨nd,by simp,λx hx y hy=>?_⟩;rw[mem_singleton]at hy;subst hy;exact λz=>hm (z ▸ hx)
  have hb1:(U++[k]).length<scanBound:=by rw[uZ];exact Pa
  refine wX (VJ _ ?_);have Pd:∀h',Heap.SameBut a s.heap h'->iO prog w h' a (U++[k])->Q true { s with heap:=h' }:=λh' hsb Dz=>h true h' hsb (by rw[ea];exact Dz);split
  ·refine wX ?_;rw[hashByValue_scannable 8 (x:=.str k tk) rfl];refine wY ?_;refine xI ?_ ho Jp hd Gp MT T0 hb1 ?_ ?_ ?_ ?_
   ·intro b T Q' hq;cases b<;>first|exact wY hq|exact wpAny_rule hq
   ·exact SetTable.fits_plain_off O
   ·exact Kl.trans Jt
   ·rfl
   ·intro h' hsb Dz;dsimp only;exact wY (Pd h' hsb Dz)
  ·rename_i R1;refine wX (wY ?_);simp only[↓reduceIte];refine xI ?_ ho Jp hd Gp MT T0 hb1 O (Kl.trans Jt) (by simpa using R1) ?_
   ·intro b T Q' hq;cases b<;>first|exact wY hq|exact wpAny_rule hq
   ·intro h' hsb Dz;dsimp only;exact wY (Pd h' hsb Dz)
end
noncomputable def iP (G:LS):LS:=G.foldl jO []
def zP (h:ts.Nodup)(x:Str):(jO ts x).Nodup:=by
 unfold jO;split
 ·exact h
 ·rename_i hm;rw[nodup_append];refine⟨h,by simp,λy hy z hz=>?_⟩;rw[mem_singleton]at hz;subst hz;exact λe=>hm (e ▸ hy)
def xJ:y∈jO ts x↔y∈ts∨y=x:=by
 unfold jO;split
 ·rename_i hm;exact⟨.inl,λz=>z.elim id λe=>e ▸ hm⟩
 ·simp
def vq (M:LS):∀G:LS,(M.foldl jO G).length<=G.length+M.length:=by
 induction M with
 |nil=>intro G;simp
 |cons x r O=>intro G;rw[foldl_cons];have:=O (jO G x);have:=E5 G x;simp only[vE];omega
def pK (G:LS):(iP G).length<=G.length:=by have:=vq G [];simpa [iP]using this
def CD (G:LS)(x:Str):iP (G++[x])=jO (iP G) x:=by unfold iP;rw[foldl_append];rfl
theorem StrsAre.at:∀ {vs:LU}{G:LS},StrsAre vs G->∀(i:Nat)(v:Value),vs[i]? = some v->∃x t,v=.str x t/\G[i]? = some x
 |_,_,.nil,i,v,h=>by simp at h
 |_,_,.cons x t hr,0,v,h=>by simp at h;exact⟨x,t,h.symm,rfl⟩
 |_,_,.cons x t hr,i+1,v,h=>by
  simp only[List.getElem?_cons_succ]at h;exact StrsAre.at hr i v h
def iO.at (x:iO prog w h a ts)(k:∀o,h.get? a=some o->h'.get? a=some o):iO prog w h' a ts:=by
 obtain⟨o,es,G,t,ho,r⟩:=x;exact⟨o,es,G,t,k o ho,r⟩
section
variable {prog:Program}{w:World}{A:Around}{R:Result->Shared->Prop}{I:Addr}{fp wr:List Addr}{G:Array GenState->Array GenState->Prop}{n:Nat}{P:Nat->Value->Prop}{St:Nat->Shared->Prop}
def vt (W:WalksS prog w A.in1 I fp wr G n P St)(S:Addr)(U:S∉fp)(M:LS)(hn:M.length=n)
  (Mz:∀i v,P i v->∃x t,v=.str x t/\M[i]? = some x) (hb:n+1<scanBound):
  ∀(k i:Nat)(s:Shared),n - i=k->i<=n->St i s->iO prog w s.heap S (iP (M.take i)) ->
   (∀s',Moved (S::wr) G s s'->iO prog w s'.heap S (iP M)->R (.ok (.ret .none)) s') ->
   codeAny (model prog w) A (.builtin "set.update.loop" ⟨[.ref S,.ref I],[]⟩) R s:=by
 have T1:S∉wr:=λh=>U (W.sub _ h);have O:∀b∈wr,b∈S::wr:=λb hb=>mZ _ hb;intro k;induction k with
 |zero=>
  intro i s hk hi T hS hR;have M0:i=n:=by omega
  subst M0;refine codeAny_builtin PyProof.Rows.F.entry_set_update_loop ?_;rw[Around.under_plainId PyProof.Rows.F.plain_set_update_loop _];show wpAny _ A.in1 (pyNext (.ref I)>>=_) _ _ s;refine wX (W.done s _ _ T λs' hm=>?_);show wpAny _ A.in1 (ret Value.none) _ _ s';refine wY (hR s' (hm.mono O) ?_);rw[take_of_length_le (by omega)]at hS;exact hS.at λo e=>hm.heap S _ T1 e
 |succ k ih=>
  intro i s hk hi T hS hR;have zq:i<n:=by omega
  refine codeAny_builtin PyProof.Rows.F.entry_set_update_loop ?_;rw[Around.under_plainId PyProof.Rows.F.plain_set_update_loop _];show wpAny _ A.in1 (pyNext (.ref I)>>=_) _ _ s;refine wX (W.item i s _ _ zq T λv s' hP hst' hm=>?_);obtain⟨x,t,rfl,hx⟩:=Mz i v hP;have Dz:iO prog w s'.heap S (iP (M.take i)):=hS.at λo e=>hm.heap S _ T1 e;show wpAny _ A.in1 (holding [Value.str x t] (setAdd S (.str x t))>>=_) _ _ s';refine wX (wpAny_holding ?_);unfold setAdd;refine wpAny_holding ?_;refine wX ((PySem.strKind prog w).pyHash (k:=x) (strKind_is prog w x t) ?_);have hl:(iP (M.take i)).length+1<scanBound:=by have:=pK (M.take i);rw[length_take]at this;omega
  refine zO (s:={ s' with toks:=s'.toks+1 }) Dz hl λb h' hsb Km=>?_;have VL:iO prog w h' S (iP (M.take (i+1))):=by
   rw[take_add_one,hx,toList_some,CD];exact Km
  refine wY ⟨plainId_quiet PyProof.Rows.F.plain_set_update_loop _,ih (i+1) _ (by omega) zq (W.frame _ s' _ _ hst' (le_succ _) λb hb o e=>?_) VL λPe hm'' hS''=>?_⟩
  ·rw[hsb.2 b (λh:b=S=>U (by rw[←h];exact hb))];exact e
  ·refine hR Pe (Moved.trans W.gtrans ((hm.mono O).then_heap (le_succ _) λb o hb e=>?_) hm'') hS'';rw[hsb.2 b (λh:b=S=>hb (by rw[h];exact mX))];exact e
end
section
variable {prog:Program}{w:World}{A:Around}{E:QV}{s:Shared}
noncomputable abbrev fj (w:World):Obj:={ cls:=.type "set",dict:=none,data:=.set #[] 0 (.fresh 0 0 (!w.params.followText "set-order")) }
def xK (a:Value) 
  (h:Q₁ (.ref s.heap.objs.size) { s with heap:=s.heap.push (fj w) }):
  codeAny (model prog w) A (.call (.builtin "set.__new__") ⟨[.type "set",a],[]⟩) (wants Q₁ E) s:=by
 refine codeAny_of_tree ?_;show wpAny _ A.in1 (do checkBuiltinCall "set.__new__" ⟨[.type "set",a],[]⟩;again (.builtin "set.__new__" ⟨[.type "set",a],[]⟩)) _ _ s;refine wX (wpAny_of_eq (PySem.F.newCall_set_1 a) (wY ⟨plainId_quiet plain_set_new _,codeAny_builtin PySem.F.entry_set_new ?_⟩));rw[Around.under_plainId plain_set_new _];unfold Builtin.«set.__new__» Builtin.Frozenset.newClass;have G:=sub_set_self;obtain⟨hp,g,d,tk,os⟩:=s;dsimp only;wp_walk;refine wpAny_askSetting (wY ?_);dsimp only;simp only[newObj];refine wX (wpAny_alloc (wY ?_));exact wY h
set_option maxHeartbeats 3200000 in
def pL 
  (hh:A.handled=none) (hl:s.heap.IsList l items) (hi:StrsAre items.toList ss) (hb:items.size+1<scanBound)
  (h:∀(h':Heap)(tk:Nat),iO prog w h' s.heap.objs.size (iP ss) ->
   (∀b o,b<s.heap.objs.size->s.heap.get? b=some o->h'.get? b=some o)->Q (.ref s.heap.objs.size) { s with heap:=h',toks:=tk }):
  wpAny (model prog w) A (call (.type "set") [.ref l]) Q E s:=by
 obtain⟨c,tl,VM⟩:=called_set.mro;have T2:=called_set.made;have VN:=called_set.sub;refine wpAny_call (codeAny_of_tree ?_);show wpAny _ _ (callAny (.type "set") _) _ _ _;refine wY ⟨Code.quiet_builtin _ (by decide +kernel),codeAny_builtin PySem.F.entry_type_call ?_⟩;rw[Around.under_plain (weight_type_call_type "set" [.ref l] []) rfl];have h1:=called_set.notType;have h2:=called_set.canCreate;have XN:=PySem.F.typeCall_set_1 (.ref l);have kJ:ss.length=items.size:=by have:=hi.strs;rw[←this,vI,vG]
 repeat (any_goals (first|assumption|wp_step))
 refine codeAny_mono (xK (.ref l) (E:=E) (Q₁:=λobj O=>obj=.ref s.heap.objs.size/\O={ s with heap:=s.heap.push (fj w) }) ⟨rfl,rfl⟩) λr O hr=>?_;cases r with
 |error e=>exact hr
 |ok fl=>
  cases fl with
  |ret obj=>
   obtain⟨rfl,rfl⟩:=hr;have hS:(s.heap.push (fj w)).get? s.heap.objs.size=some (fj w):=vY _ rfl;have hT:Shared.TypeIs { s with heap:=s.heap.push (fj w) } (.ref s.heap.objs.size) "set":=⟨_,hS,rfl⟩;have XO:=called_set.init.lookup;have XQ:=called_set.init.bind (.ref s.heap.objs.size);repeat (any_goals (first|assumption|wp_step))
   refine codeAny_mono (codeAny_call_builtin (R:=wants (λr T=>r=.none/\∃h' tk,T={ s with heap:=h',toks:=tk } /\
     iO prog w h' s.heap.objs.size (iP ss) /\
     (∀b o,b<s.heap.objs.size->s.heap.get? b=some o->h'.get? b=some o)) E) called_set.init.plain PySem.F.entry_set_init (check_set_init_1 hT ?_)) λr₂ T G=>?_
   ·obtain⟨ol,PP,Kn,nl,MV⟩:=hl;obtain⟨VO,U,T3,M⟩:=ol;simp only at Kn MV;subst Kn;subst MV;have R4:(s.heap.push (fj w)).get? l=some { cls:=.type "list",dict:=U,data:=.seq items nl,slots:=M }:=vZ _ PP;have VP:=PySem.F.sub_list_set;have VQ:=PySem.F.sub_list_frozenset;have D8:(Value.type "list" == Value.type "dict")=false:=by decide
    have Kl:(s.heap.push (fj w)).IsList l items:=⟨_,R4,rfl,nl,rfl⟩;unfold Builtin.«set.__init__» noKeywords Builtin.Frozenset.updateFrom;generalize hPI:pyIter=PI;wp_walk;subst hPI;refine wpAny_pyIter_list Kl ?_;refine wX (wpAny_runValue ?_);have T4:l<s.heap.objs.size:=vX PP;have VR:A.in1.in1.in1.handled=none:=by simp[hh]
    have R5:l≠(s.heap.push (fj w)).objs.size:=by
     rw[Heap.size_push];exact vS (lt_succ_of_lt T4)
    have MW:s.heap.objs.size∉[(s.heap.push (fj w)).objs.size,l]:=by
     rw[Heap.size_push];simp only[mem_cons,mem_singleton,not_mem_nil,or_false,not_or];exact⟨vS (lt_succ_self _),ne_of_gt T4⟩
    have Mz:∀(i:Nat)(v:Value),items[i]? = some v->∃x t,v=.str x t/\ss[i]? = some x:=λi v hv=>
     StrsAre.at hi i v (by rw[getElem?_toList];exact hv)
    refine vt ((Walks.list VR _ l R5 items).toS) s.heap.objs.size
     MW ss kJ Mz hb (items.size - 0) 0 _ (by omega) (uN _)
     ⟨⟨_,vY _ rfl,rfl,rfl⟩,(Kl.push _)⟩ ?hS0 ?hR
    case hS0=>
     have R6:((s.heap.push (fj w)).push { cls:=.type "list_iterator",data:=.fields #[.ref l,.int 0 0] }).get? s.heap.objs.size
       = some (fj w):=vZ _ hS
     exact⟨_,#[],0,_,R6,⟨rfl,rfl,rfl⟩,rfl,λe he=>by simp at he,List.Perm.refl _,nodup_nil,(by show(0:Nat)<scanBound;decide),rfl,rfl,λz=>absurd rfl z⟩
    case hR=>
     intro s' hm Dz
     obtain⟨h',g',d',Ju,T5⟩:=s'
     have eg:g'=s.gens:=hm.gens
     have ed:d'=s.drawn:=hm.drawn
     have eo:T5=s.os:=hm.os
     subst eg;subst ed;subst eo
     show wpAny _ _ _ _ _ _
     refine wY ?_
     show wpAny _ _ (ret Value.none) _ _ _
     refine wY ⟨rfl,h',Ju,rfl,Dz,λb o hb e=>?_⟩
     have hb1:b≠s.heap.objs.size:=vS hb
     have VS:b≠(s.heap.push (fj w)).objs.size:=by
      rw[Heap.size_push];exact vS (lt_succ_of_lt hb)
     exact hm.heap b o (by simp only[mem_cons,mem_singleton,not_mem_nil,or_false,not_or];exact⟨hb1,VS⟩) (vZ _ (vZ _ e))
   ·cases r₂ with
    |error e=>exact G
    |ok fl₂=>
     cases fl₂ with
     |ret r=>
      obtain⟨rfl,h',tk,rfl,Dz,Ko⟩:=G;repeat (any_goals (first|assumption|wp_step))
      exact h _ _ Dz Ko
     |_=>exact G.elim
  |_=>exact hr.elim
end
open Sem (wp)
section
variable {M:Model}{A:Around}{E:QV}{s:Shared}
def HG (hn:n≠0)(h:∀k d,k<n->Q k { s with drawn:=d }):wpAny M A (choose src n) Q E s:=by
 intro G p O;unfold choose;rw[Sem.wp_choose];refine⟨hn,?_⟩;have:=h _ (s.drawn.bump src) (Nat.mod_lt (M.w.draws src (s.drawn.get src)) (Nat.pos_of_ne_zero hn));simpa using this
end
def mn {α:Type}:∀(l:List α)(i:Nat),i<l.length->(l.eraseIdx i).length=l.length - 1:=λl i h=>by rw[List.length_eraseIdx,if_pos h]
theorem lE {α:Type}:∀(l:List α)(i:Nat)(x:α),l[i]? = some x->(x::l.eraseIdx i).Perm l
 |[],i,x,h=>by simp at h
 |a::l,0,x,h=>by simp at h;subst h;exact List.Perm.refl _
 |a::l,i+1,x,h=>by
  rw[List.eraseIdx_cons_succ];simp only[List.getElem?_cons_succ]at h;exact(List.Perm.swap a x _).trans ((lE l i x h).cons a)
theorem AU {α:Type}:∀(n:Nat)(xs:List α)(s:Shared)(Q:List α->Shared->Prop),xs.length=n->(∀ys d,ys.Perm xs->Q ys { s with drawn:=d })->wpAny M A (drawOrder n xs) Q E s
 |0,xs,s,Q,hl,h=>by
  have:xs=[]:=List.eq_nil_of_length_eq_zero hl;subst this;exact wY (h [] s.drawn (List.Perm.refl _))
 |n+1,[],s,Q,hl,h=>by simp at hl
 |n+1,x::r,s,Q,hl,h=>by
  show wpAny M A (choose .order (x::r).length>>=λi=>match (x::r)[i]? with
   |some G=>(do return G::(←drawOrder n ((x::r).eraseIdx i)))
   |none=>unsupported "internal:drawOrder") Q E s
  refine wX (HG (by simp) λk d hk=>?_);obtain⟨y,hy⟩:∃y,(x::r)[k]? = some y:=⟨_,vU hk⟩;rw[hy];refine wX (AU n _ _ _ (by rw[mn _ _ hk,hl];rfl) λys d' hp=>wY (h _ _ ((hp.cons y).trans (lE _ _ _ hy))))
theorem AW {α:Type}(next:Nat->Nat):∀(fuel k:Nat)(left:List α)(out:Array α),left.length=fuel->(pickOrder.go next fuel k left out).toList.Perm (out.toList++left)
 |0,k,left,out,hl=>by
  have:left=[]:=List.eq_nil_of_length_eq_zero hl;subst this;unfold pickOrder.go;simp
 |fuel+1,k,left,out,hl=>by
  unfold pickOrder.go;have hk:next k % left.length<left.length:=Nat.mod_lt _ (by omega);obtain⟨y,hy⟩:∃y,left[next k % left.length]? = some y:=⟨_,vU hk⟩;rw[hy];dsimp only;refine(AW next fuel (k+1) _ _ (by rw[mn _ _ hk];omega)).trans ?_;rw[toList_push,append_assoc];exact(lE _ _ _ hy).append_left _
def CF {α:Type}(next:Nat->Nat)(xs:Array α):(pickOrder next xs).toList.Perm xs.toList:=by
 have:=AW next xs.size 0 xs.toList #[] (by simp);simpa [pickOrder]using this
def bG:Slot "set_iterator" "__next__" "set_iterator.__next__" :=
 .of (owner:="set_iterator") (n:="__next__") (by rw[typeLookup_type,builtinLookup_eq_fast];kernel_rfl) (by decide +kernel) (by decide +kernel) (by decide +kernel)
  (by first|exact .inl (by decide +kernel)|exact .inr (by decide +kernel)) (by rw[isSubtype_type];kernel_rfl)
def fL:entryFor table "set_iterator.__next__" = some Builtin.«set_iterator.__next__»:=entryFor_of_tree (by kernel_rfl)
def gt (a:Value):argsOk "set_iterator.__next__" ⟨[a],[]⟩:=by unfold argsOk;kernel_rfl
def lm:Slot "set_iterator" "__iter__" "set_iterator.__iter__" :=
 .of (owner:="set_iterator") (n:="__iter__") (by rw[typeLookup_type,builtinLookup_eq_fast];kernel_rfl) (by decide +kernel) (by decide +kernel) (by decide +kernel)
  (by first|exact .inl (by decide +kernel)|exact .inr (by decide +kernel)) (by rw[isSubtype_type];kernel_rfl)
def pM:entryFor table "set_iterator.__iter__" = some Builtin.«dict_keyiterator.__iter__» :=
 entryFor_alias (id':="dict_keyiterator.__iter__") (by kernel_rfl) rfl (by decide +kernel) (by kernel_rfl)
def sd (a:Value):argsOk "set_iterator.__iter__" ⟨[a],[]⟩:=by unfold argsOk;kernel_rfl
def oE:entryFor table "set.__iter__" = some Builtin.«frozenset.__iter__» :=
 entryFor_alias (id':="frozenset.__iter__") (by kernel_rfl) rfl (by decide +kernel) (by kernel_rfl)
noncomputable abbrev lF (G:Value)(i:Nat)(S:Addr)(n M:Nat):Obj:={ cls:=.type "set_iterator",data:=.fields #[G,.int i 0,.ref S,.int n 0,.int M 0] }
section
variable {prog:Program}{w:World}{A:Around}{E:QV}{s:Shared}{it S:Addr}{i ep:Nat}{o:Obj}{es:Array (Int×Value)}{t:SetTable}
def dQ (ho:s.heap.get? it=some (lF fst i S n ep)):s.TypeIs (.ref it) "set_iterator":=⟨_,ho,rfl⟩
def vv {k k':Nat}{x:Value}{Q:Option Value->Shared->Prop}(ho:s.heap.get? it=some (lF (.int k 0) i S es.size ep))
  (hS:s.heap.get? S=some o) (hd:o.data=.set es ep t) (hf:t.fits es.size=true)
  (M:∀(O:Around)(T:QV)(G:Option (Value×Nat)->Shared->Prop),G (some (x,k')) s->wpAny (model prog w) O (setNext S k i ep) G T s)
  (U:∀h',h'.get? it=some (lF (.int k' 0) (i+1) S es.size ep)->Heap.SameBut it s.heap h'->Q (some x) { s with heap:=h' }):
  wpAny (model prog w) A (pyNext (.ref it)) Q E s:=by
 unfold pyNext;refine wX (wpAny_attempt (wpAny_callSpecial?_slot (name:=Str.ofString "__next__") (dQ ho) bG
  (wpAny_call_entry bG (dQ ho) fL ?_ (gt _))))
 show wpAny _ _ (fieldsOf (.ref it)>>=_) _ _ s;refine wX (wpAny_fieldsOf ho rfl ?_);show wpAny _ _ (setEntries S>>=_) _ _ s;refine wX (wpAny_setEntries_of hS hd hf ?_);rw[if_neg (by simp)];show wpAny _ _ (setNext S _ _ _>>=_) _ _ s;simp only[toNat_natCast];refine wX (M _ _ _ ?_);dsimp only;refine wX (wpAny_setField_rec ho (by simp) λh1 e1 b1=>?_);refine wX (wpAny_setField_rec e1 (by simp) λh2 e2 b2=>?_);exact wY ⟨x,rfl,wY (U h2 (by simpa [rawInt,lF]using e2) (b1.trans b2))⟩
def vw {k:Nat}{Q:Option Value->Shared->Prop}(hh:A.handled=none)(ho:s.heap.get? it=some (lF (.int k 0) i S es.size ep))
  (hS:s.heap.get? S=some o) (hd:o.data=.set es ep t) (hf:t.fits es.size=true)
  (M:∀(O:Around)(U:QV)(G:Option (Value×Nat)->Shared->Prop),G none s->wpAny (model prog w) O (setNext S k i ep) G U s)
  (hQ:∀h',Heap.ExtBut it s.heap h'->Q none { s with heap:=h' }):
  wpAny (model prog w) A (pyNext (.ref it)) Q E s:=by
 unfold pyNext;refine wX (wpAny_attempt (wpAny_callSpecial?_slot (name:=Str.ofString "__next__") (dQ ho) bG
  (wpAny_call_entry bG (dQ ho) fL ?_ (gt _))))
 show wpAny _ _ (fieldsOf (.ref it)>>=_) _ _ s;refine wX (wpAny_fieldsOf ho rfl ?_);show wpAny _ _ (setEntries S>>=_) _ _ s;refine wX (wpAny_setEntries_of hS hd hf ?_);rw[if_neg (by simp)];show wpAny _ _ (setNext S _ _ _>>=_) _ _ s;simp only[toNat_natCast];refine wX (M _ _ _ ?_);dsimp only;refine wX (wpAny_setField_rec ho (by simp) λh1 e1 b1=>?_);refine wX ?_;simp only[newExc,newTuple];refine wX (wpAny_newObj_type ?_ (by size_fits));refine wX (m:=firstArgMember _ _) (wpAny_of_eq (a:=Value.none) (by first|rfl|(simp only[firstArgMember];rfl)) ?_);refine wpAny_newObj_type ?_ (by size_fits);simp only[raiseNew];refine wX (wpAny_handled ?_);rw[show A.in1.handled=none from hh];refine wX (wY (wpAny_throw ?_));refine wX (wpAny_isInstance (T:="StopIteration") (b:=true) ⟨_,vY _ rfl,rfl⟩ isSubtype_stop ?_);exact wY (hQ _ ((b1.extBut.push _).push _))
def se {T:Addr}{pl:LN}{p:Nat}{x:Int×Value}{nt:Nat}{Q:Option Value->Shared->Prop}(ho:s.heap.get? it=some (lF (.ref T) i S es.size ep))
  (M:s.heap.get? T=some (seqObj "tuple" (pl.map λ(p:Nat)=>Value.int p 0).toArray nt))
  (hS:s.heap.get? S=some o) (hd:o.data=.set es ep t) (hf:t.fits es.size=true) (hp:pl[i]? = some p) (hx:es[p]? = some x)
  (O:∀h',h'.get? it=some (lF (.ref T) (i+1) S es.size ep)->Heap.SameBut it s.heap h'->Q (some x.2) { s with heap:=h' }):
  wpAny (model prog w) A (pyNext (.ref it)) Q E s:=by
 unfold pyNext;refine wX (wpAny_attempt (wpAny_callSpecial?_slot (name:=Str.ofString "__next__") (dQ ho) bG
  (wpAny_call_entry bG (dQ ho) fL ?_ (gt _))))
 show wpAny _ _ (fieldsOf (.ref it)>>=_) _ _ s;refine wX (wpAny_fieldsOf ho rfl ?_);show wpAny _ _ (setEntries S>>=_) _ _ s;refine wX (wpAny_setEntries_of hS hd hf ?_);rw[if_neg (by simp)];show wpAny _ _ (seqItems? (.ref T)>>=_) _ _ s;refine wX (wpAny_seqItems M rfl ?_);have G:(pl.map λ(p:Nat)=>Value.int p 0).toArray[(i:Int).toNat]? = some (.int p 0):=by simp[hp]
 dsimp only;rw[G];dsimp only;have e2:wpAny (model prog w) A.in1 (setNextDrawn S (p:Int).toNat (ep:Int).toNat) (λy s'=>y=x.2/\s'=s) (λ_ _=>False) s:=by
  unfold setNextDrawn;refine wX (wpAny_setState_of hS hd hf ?_);dsimp only;rw[if_neg (by simp)];simp only[toNat_natCast,hx];exact wY ⟨rfl,rfl⟩
 refine wX (wpAny_mono e2 (λy s' hy=>?_) λ_ _ z=>z.elim);obtain⟨rfl,rfl⟩:=hy;refine wX (wpAny_setField_rec ho (by simp) λh1 G b1=>?_);exact wY ⟨_,rfl,wY (O h1 (by simpa [rawInt,lF]using G) b1)⟩
def sf {T:Addr}{pl:LN}{nt:Nat}{Q:Option Value->Shared->Prop}(hh:A.handled=none)(ho:s.heap.get? it=some (lF (.ref T) i S es.size ep))
  (M:s.heap.get? T=some (seqObj "tuple" (pl.map λ(p:Nat)=>Value.int p 0).toArray nt))
  (hS:s.heap.get? S=some o) (hd:o.data=.set es ep t) (hf:t.fits es.size=true) (hp:pl[i]? = none)
  (O:∀h',Heap.ExtBut it s.heap h'->Q none { s with heap:=h' }):
  wpAny (model prog w) A (pyNext (.ref it)) Q E s:=by
 unfold pyNext;refine wX (wpAny_attempt (wpAny_callSpecial?_slot (name:=Str.ofString "__next__") (dQ ho) bG
  (wpAny_call_entry bG (dQ ho) fL ?_ (gt _))))
 show wpAny _ _ (fieldsOf (.ref it)>>=_) _ _ s;refine wX (wpAny_fieldsOf ho rfl ?_);show wpAny _ _ (setEntries S>>=_) _ _ s;refine wX (wpAny_setEntries_of hS hd hf ?_);rw[if_neg (by simp)];show wpAny _ _ (seqItems? (.ref T)>>=_) _ _ s;refine wX (wpAny_seqItems M rfl ?_);have G:(pl.map λ(p:Nat)=>Value.int p 0).toArray[(i:Int).toNat]? = none:=by simpa using hp
 dsimp only;rw[G];dsimp only;refine wX (wpAny_setField_rec ho (by simp) λh0 U b0=>?_);refine wX (wpAny_setField_rec U (by simp) λh1 G b1=>?_);refine wX ?_;simp only[newExc,newTuple];refine wX (wpAny_newObj_type ?_ (by size_fits));refine wX (m:=firstArgMember _ _) (wpAny_of_eq (a:=Value.none) (by first|rfl|(simp only[firstArgMember];rfl)) ?_);refine wpAny_newObj_type ?_ (by size_fits);simp only[raiseNew];refine wX (wpAny_handled ?_);rw[show A.in1.handled=none from hh];refine wX (wY (wpAny_throw ?_));refine wX (wpAny_isInstance (T:="StopIteration") (b:=true) ⟨_,vY _ rfl,rfl⟩ isSubtype_stop ?_);exact wY (O _ (((b0.trans b1).extBut.push _).push _))
def xL (ho:s.heap.get? it=some (lF fst i S n ep))(h:Q (.ref it) s):wpAny (model prog w) A (pyIter (.ref it)) Q E s:=by
 refine wpAny_pyIter_slot (dQ ho) lm (wpAny_call_entry lm (dQ ho) pM ?_ (sd _));show wpAny _ _ (ret (.ref it)) _ _ s;exact wY ⟨_,rfl,"set_iterator",_,dQ ho,bG.lookup,h⟩
end
section
variable {prog:Program}{w:World}{A:Around}{E:QV}{s:Shared}{it S:Addr}{i k ep:Nat}{o:Obj}{es:Array (Int×Value)}{t:SetTable}
def tz (hS:s.heap.get? S=some o)(hd:o.data=.set es ep t)(hf:t.fits es.size=true)(hb:w.params.followText "set-order" = true)
  (h:Q (((pickOrder (w.params.setOrder S ep) es)[i]?).map λe=>(e.2,k)) s):wpAny (model prog w) A (setNext S k i ep) Q E s:=by
 unfold setNext;refine wX (wpAny_setState_of hS hd hf ?_);dsimp only;unfold setsByText;refine wX (wX (wpAny_askSetting (wY ?_)));show wpAny _ _ (if w.params.followText "set-order" = true then _ else _) _ _ _;rw[if_pos hb,if_neg (by simp)];unfold setWalk setsByText;refine wX (wX (wpAny_setState_of hS hd hf ?_));dsimp only;refine wX (wX (wpAny_askSetting (wY ?_)));show wpAny _ _ (if w.params.followText "set-order" = true then _ else _) _ _ _;rw[if_pos hb];refine wX (wpAny_askSetting (wY ?_));exact wY h
def pN (hS:s.heap.get? S=some o)(hd:o.data=.set es ep t)(hf:t.fits es.size=true)(hb:w.params.followText "set-order" = false)(hl:t.led=true)(hz:es.size<=1)
  (h:Q (match es[SetTable.below t.place k]?,t.place[SetTable.below t.place k]? with
   |some (_,x),some j=>some (x,j+1)
   |_,_=>none) s):wpAny (model prog w) A (setNext S k i ep) Q E s:=by
 unfold setNext;refine wX (wpAny_setState_of hS hd hf ?_);dsimp only;unfold setsByText;refine wX (wX (wpAny_askSetting (wY ?_)));show wpAny _ _ (if w.params.followText "set-order" = true then _ else _) _ _ _;rw[if_neg (by rw[hb];simp)];show wpAny _ _ (if(!t.plain && decide (es.size > 1))=true then _ else _) _ _ _;rw[if_neg (by rw[MO (by omega)];simp)];show wpAny _ _ ((if(!t.led && !es.isEmpty)=true then unsupported "set:maker-not-led" else pure ())>>=_) _ _ _;rw[hl,if_neg (by simp)];refine wX (wY ?_);exact wY h
def t0 (hh:A.handled=none)(hd:o.data=.set es ep t)(hf:t.fits es.size=true)(U:S≠it)(vs:LU)(hv:vs.length=es.size)(sl:Nat->Nat)
  (hN:∀i x,vs[i]? = some x->∀(M:Around)(O:QV)(s:Shared)(G:Option (Value×Nat)->Shared->Prop),s.heap.get? S=some o->G (some (x,sl (i+1))) s->wpAny (model prog w) M (setNext S (sl i) i ep) G O s)
  (hE:∀(M:Around)(O:QV)(s:Shared)(G:Option (Value×Nat)->Shared->Prop),s.heap.get? S=some o->G none s->wpAny (model prog w) M (setNext S (sl es.size) es.size ep) G O s):
  Walks prog w A it [it,S] [it] es.size (λi v=>vs[i]? = some v) (λi h=>h.get? it=some (lF (.int (sl i) 0) i S es.size ep)/\h.get? S=some o) where
 sub:=λb hb=>by simp at hb;simp[hb]
 frame:=λ_ _ _ st hk=>⟨hk it (by simp) _ st.1,hk S (by simp) _ st.2⟩
 item:=λi s Q E hi st T=>by
  obtain⟨x,hx⟩:∃x,vs[i]? = some x:=⟨_,vU (by omega)⟩;refine vv st.1 st.2 hd hf (λM O G q=>hN i x hx M O s G st.2 q) λh' h1 h2=>?_;exact T x h' s.toks hx ⟨h1,h2.extBut S _ U st.2⟩ λb u hb e=>h2.extBut b u (λz=>hb (by simp[z])) e
 done:=λs Q E st T=>vw hh st.1 st.2 hd hf (λM O G q=>hE M O s G st.2 q) λh' h1=>T h' s.toks λb u hb e=>h1 b u (λz=>hb (by simp[z])) e
 self:=λ_ _ _ _ st T=>xL st.1 T
def zQ {T:Addr}{pl:LN}{nt:Nat}(hh:A.handled=none)(hd:o.data=.set es ep t)(hf:t.fits es.size=true)(O:S≠it)(U:T≠it)(hp:pl.Perm (List.range es.size)):
  Walks prog w A it [it,S,T] [it] es.size (λi v=>(pl.map λp=>(es.getD p (0,.none)).2)[i]? = some v)
   (λi h=>h.get? it=some (lF (.ref T) i S es.size ep)/\h.get? S=some o/\h.get? T=some (seqObj "tuple" (pl.map λ(p:Nat)=>Value.int p 0).toArray nt)) where
 sub:=λb hb=>by simp at hb;simp[hb]
 frame:=λ_ _ _ st hk=>⟨hk it (by simp) _ st.1,hk S (by simp) _ st.2.1,hk T (by simp) _ st.2.2⟩
 item:=λi s Q E hi st G=>by
  have M:pl.length=es.size:=by rw[hp.length_eq,length_range]
  obtain⟨p,hx⟩:∃p,pl[i]? = some p:=⟨_,vU (by omega)⟩;have VT:p<es.size:=mem_range.mp (hp.mem_iff.mp (vL hx));have he:es[p]? = some (es.getD p (0,.none)):=by rw[getD_eq_getD_getElem?,getElem?_eq_getElem VT];rfl
  refine se st.1 st.2.2 st.2.1 hd hf hx he λh' h1 h2=>?_;exact G _ h' s.toks (by simp[hx]) ⟨h1,h2.extBut S _ O st.2.1,h2.extBut T _ U st.2.2⟩ λb u hb e=>h2.extBut b u (λz=>hb (by simp[z])) e
 done:=λs Q E st G=>by
  have M:pl.length=es.size:=by rw[hp.length_eq,length_range]
  exact sf hh st.1 st.2.2 st.2.1 hd hf (getElem?_eq_none (by omega)) λh' h1=>G h' s.toks λb u hb e=>h1 b u (λz=>hb (by simp[z])) e
 self:=λ_ _ _ _ st G=>xL st.1 G
end
def zR {α:Type}(es:Array α)(d:α):(List.range es.size).map (λp=>es.getD p d)=es.toList:=by
 apply ext_getElem?;intro i;by_cases h:i<es.size
 ·simp[h,getD_eq_getD_getElem?]
 ·simp[h]
section
variable {prog:Program}{w:World}{A:Around}{E:QV}{s:Shared}
def t6 (h:xs=#[j]):SetTable.below xs k=if j<k then 1 else 0:=by
 subst h;by_cases h:j<k
 ·simp[SetTable.below,SetTable.below.go,h]
 ·simp[SetTable.below,SetTable.below.go,h]
def E6 {S:Addr}{ts:LS}{Q:QV}(hS:iO prog w s.heap S ts)
  (hQ:∀(h':Heap)(d:Drawn)(it:Addr)(vs:LU)(fp:List Addr)(St:Nat->Heap->Prop),(∀A',A'.handled=none->Walks prog w A' it fp [it] ts.length (λi v=>vs[i]? = some v) St)->St 0 h' ->
   (∀b u,s.heap.get? b=some u->h'.get? b=some u)->s.heap.objs.size<=it->(∀b∈fp,b=S∨s.heap.objs.size<=b)->vs.length=ts.length->(vs.map strOf).Perm ts->(∀v∈vs,∃x t,v=.str x t) ->
   Q (.ref it) { s with heap:=h',drawn:=d }):wpAny (model prog w) A (pyIter (.ref S)) Q E s:=by
 obtain⟨o,es,ep,t,ho,Jp,hd,My,hp,nd,hb,hf,Jt,Jr⟩:=hS;have sz:es.size=ts.length:=by rw[←hp.length_eq,vI,vG]
 have T:S<s.heap.objs.size:=vX ho;have T6:s.TypeIs (.ref S) "set":=⟨_,ho,Jp.1⟩;have M:∀e∈es.toList,∃x t,e.2=.str x t:=λe he=>by
  obtain⟨⟨k,hk,_⟩,_⟩:=My e he;obtain⟨t,q⟩:=Value.isStrOf_shape (show Value.isStrOf k e.2=true from hk);exact⟨k,t,q⟩
 refine wpAny_pyIter_slot T6 slot_set_iter (wpAny_call_entry slot_set_iter T6 oE ?_ (PySem.F.args_set_iter_1 _));show wpAny _ _ (Builtin.Frozenset.sizeOf S>>=_) _ _ s;unfold Builtin.Frozenset.sizeOf;refine wX (wX (wpAny_setEntries_of ho hd hf (wY ?_)));unfold setDrawn setsByText;refine wX (wX (wpAny_setState_of ho hd hf ?_));dsimp only;refine wX (wX (wpAny_askSetting (wY (wY ?_))));show wpAny _ _ (if(!w.params.followText "set-order" && (!t.plain && decide (es.size > 1)))=true then _ else _) _ _ _;have U:(es.toList.map (·.2)).map strOf=es.toList.map (λe=>strOf e.2):=by rw[uP];rfl
 by_cases G:w.params.followText "set-order" = true
 ·rw[if_neg (by rw[G];simp)];refine wX (wY ?_);refine wX (wpAny_setEpoch_of ho hd hf ?_);have pp:=CF (w.params.setOrder S ep) es;have kJ:((pickOrder (w.params.setOrder S ep) es).toList.map (·.2)).length=es.size:=by rw[vI,pp.length_eq,vG]
  refine wX (wpAny_newObj_type (wY ⟨_,rfl,"set_iterator",_,⟨_,vY _ rfl,rfl⟩,bG.lookup,?_⟩));refine hQ _ s.drawn s.heap.objs.size ((pickOrder (w.params.setOrder S ep) es).toList.map (·.2)) [s.heap.objs.size,S] (λi h=>h.get? s.heap.objs.size=some (lF (.int ((λ_=>0:Nat->Nat) i:Nat) 0) i S es.size ep)/\h.get? S=some o) (λA' hA=>?_) ?_ (λb u e=>vZ _ e) (vT _) (λb hb=>?_) (kJ.trans sz) ?_ ?_
  ·rw[←sz];exact t0 hA hd hf (vS T) _ kJ (λ_=>0) (λi x hx A' E' s Q' h1 h2=>tz h1 hd hf G (by
    rw[vA,getElem?_toList]at hx;obtain⟨e,he,rfl⟩:=oY hx;rw[he];exact h2)) (λA' E' s Q' h1 h2=>tz h1 hd hf G (by
    rw[Array.getElem?_eq_none (by rw[←vG,pp.length_eq,vG];exact vT _)];exact h2))
  ·exact⟨vY _ rfl,vZ _ ho⟩
  ·simp only[mem_cons,not_mem_nil,or_false]at hb;rcases hb with rfl|rfl
   ·exact .inr (vT _)
   ·exact .inl rfl
  ·refine List.Perm.trans ?_ hp;rw[←U];exact(pp.map _).map _
  ·intro v hv;obtain⟨e,he,rfl⟩:=vO hv;exact M e (pp.mem_iff.mp he)
 ·rw[not_eq_true]at G;have hl:t.led=true:=by rw[Jt,G];rfl
  by_cases h1:es.size<=1
  ·rw[if_neg (by rw[MO (by omega)];simp)];refine wX (wY ?_);refine wX (wpAny_setEpoch_of ho hd hf ?_);refine wX (wpAny_newObj_type (wY ⟨_,rfl,"set_iterator",_,⟨_,vY _ rfl,rfl⟩,bG.lookup,?_⟩));have XR:t.place.size=es.size:=by
    simp only[SetTable.fits,vC,beq_iff_eq,decide_eq_true_eq]at hf;exact hf.1
   refine hQ _ s.drawn s.heap.objs.size (es.toList.map (·.2)) [s.heap.objs.size,S] (λi h=>h.get? s.heap.objs.size=some (lF (.int ((λi=>if i=0 then 0 else t.place.getD 0 0+1:Nat->Nat) i:Nat) 0) i S es.size ep)/\h.get? S=some o) (λA' hA=>?_) ?_ (λb u e=>vZ _ e) (vT _) (λb hb=>?_) (by rw[vI,vG,sz]) (by rw[U];exact hp) ?_
   ·rw[←sz];refine t0 hA hd hf (vS T) _ (by simp) (λi=>if i=0 then 0 else t.place.getD 0 0+1) (λi x hx A' E' s Q' q1 q2=>pN q1 hd hf G hl h1 ?_) (λA' E' s Q' q1 q2=>pN q1 hd hf G hl h1 ?_)
    ·have hi:i<es.size:=by have:=(vV hx).1;simpa using this
     have PQ:i=0:=by omega
     subst PQ;obtain⟨j,hj⟩:∃j,t.place=#[j]:=Array.size_eq_one_iff.mp (by omega);rw[if_pos rfl,t6 hj,if_neg (by omega)];rw[vA,getElem?_toList]at hx;obtain⟨e,he,rfl⟩:=oY hx;rw[he];simp only[hj]at q2 ⊢;simpa using q2
    ·by_cases h0:es.size=0
     ·have R7:t.place=#[]:=Array.eq_empty_of_size_eq_zero (by omega);have VU:es=#[]:=Array.eq_empty_of_size_eq_zero h0;rw[R7,VU];simpa using q2
     ·obtain⟨j,hj⟩:∃j,t.place=#[j]:=Array.size_eq_one_iff.mp (by omega);rw[if_neg h0,t6 hj];have:t.place.getD 0 0=j:=by rw[hj];rfl
      rw[this,if_pos (by omega),Array.getElem?_eq_none (by omega)];exact q2
   ·exact⟨vY _ rfl,vZ _ ho⟩
   ·simp only[mem_cons,not_mem_nil,or_false]at hb;rcases hb with rfl|rfl
    ·exact .inr (vT _)
    ·exact .inl rfl
   ·intro v hv;obtain⟨e,he,rfl⟩:=vO hv;exact M e he
  ·have R7:t.plain=false:=Jr (by omega);rw[if_pos (by rw[G,R7,sv (by omega)];rfl)];refine wX (AU es.size (List.range es.size) _ _ (by simp) λpl d pp=>?_);refine wX (wpAny_newTuple ?_ (by rw[vI,pp.length_eq,length_range,sz];exact fits_of_scanBound hb));refine wX (wpAny_setEpoch_of (vZ _ ho) hd hf ?_);refine wX (wpAny_newObj_type (wY ⟨_,rfl,"set_iterator",_,⟨_,vY _ rfl,rfl⟩,bG.lookup,?_⟩));have hsz:(s.heap.push (seqObj "tuple" (pl.map λ(p:Nat)=>Value.int p 0).toArray 0)).objs.size=s.heap.objs.size+1:=size_push' _ _;have O:((pl.map λp=>(es.getD p (0,.none)).2)).Perm (es.toList.map (·.2)):=by
    have:=(pp.map λp=>es.getD p (0,Value.none)).map (·.2);rw[zR]at this;rw[uP]at this;exact this
   refine hQ _ d _ (pl.map λp=>(es.getD p (0,.none)).2) [(s.heap.push (seqObj "tuple" (pl.map λ(p:Nat)=>Value.int p 0).toArray 0)).objs.size,S,s.heap.objs.size] (λi h=>h.get? (s.heap.push (seqObj "tuple" (pl.map λ(p:Nat)=>Value.int p 0).toArray 0)).objs.size=some (lF (.ref s.heap.objs.size) i S es.size ep)/\h.get? S=some o/\h.get? s.heap.objs.size=some (seqObj "tuple" (pl.map λ(p:Nat)=>Value.int p 0).toArray 0)) (λA' hA=>?_) ?_ (λb u e=>vZ _ (vZ _ e)) ?_ (λb hb=>?_) ?_ ?_ ?_
   ·rw[←sz];exact zQ (nt:=0) hA hd hf (by show S≠(s.heap.push _).objs.size;rw[size_push'];exact vS (lt_succ_of_lt T)) (by show s.heap.objs.size≠(s.heap.push _).objs.size;rw[size_push'];exact vS (lt_succ_self _)) pp
   ·exact⟨vY _ rfl,vZ _ (vZ _ ho),vZ _ (vY _ rfl)⟩
   ·show s.heap.objs.size<=(s.heap.push _).objs.size;rw[size_push'];omega
   ·simp only[mem_cons,not_mem_nil,or_false]at hb;rcases hb with rfl|rfl|rfl
    ·refine .inr ?_;show s.heap.objs.size<=(s.heap.push _).objs.size;rw[size_push'];omega
    ·exact .inl rfl
    ·exact .inr (vT _)
   ·rw[O.length_eq,vI,vG,sz]
   ·exact((O.map strOf).trans (by rw[U])).trans hp
   ·intro v hv;obtain⟨e,he,rfl⟩:=vO (O.mem_iff.mp hv);exact M e he
end
def CG (h:ItemsOf (λi v=>vs[i]? = some v) Cc vs.length):Cc.toList=vs:=by
 apply ext_getElem?;intro i;by_cases hi:i<Cc.size
 ·have e:Cc[i]? = some Cc[i]:=getElem?_eq_getElem hi;rw[getElem?_toList,e,h.2 i _ e]
 ·rw[getElem?_eq_none (by rw[vG];omega),getElem?_eq_none (by rw[←h.1];omega)]
section
variable {prog:Program}{w:World}{A:Around}{E:QV}{s:Shared}
def xM (hh:A.handled=none)(hS:iO prog w s.heap S ts)
  (hQ:∀s' vs,(∀b u,s.heap.get? b=some u->s'.heap.get? b=some u)->s'.gens=s.gens->s'.os=s.os->vs.length=ts.length->(vs.map strOf).Perm ts->(∀v∈vs,∃x t,v=.str x t)->Q vs s'):
  wpAny (model prog w) A (collect (.ref S)) Q E s:=by
 have G:∀(s1:Shared),iO prog w s1.heap S ts->s1.TypeIs (.ref S) "set":=λs1 h=>by
  obtain⟨o,_,_,_,ho,Jp,_⟩:=h;exact⟨o,ho,Jp.1⟩
 have zq:S<s.heap.objs.size:=by obtain⟨o,_,_,_,ho,_⟩:=hS;exact vX ho
 have T:ts.length<scanBound:=by obtain⟨_,_,_,_,_,_,_,_,_,_,h,_⟩:=hS;exact h
 unfold collect;refine wX (wpAny_runValue (codeAny_builtin PySem.F.entry_proto_collect ?_));rw[Around.under_plainId PySem.F.plain_proto_collect _];show wpAny _ A.in1 (newList []>>=λl=>again (.builtin "list.__iadd__" ⟨[l,.ref S],[]⟩)) _ _ s;refine wX (wpAny_newObj_type ?_);refine wY ⟨plainId_quiet PySem.F.plain_list_iadd _,codeAny_builtin PySem.F.entry_list_iadd ?_⟩;rw[Around.under_plainId PySem.F.plain_list_iadd _];show wpAny _ A.in1 (Builtin.List.listExtendWith (.ref s.heap.objs.size) (.ref S) (.ref s.heap.objs.size)) _ _ _;unfold Builtin.List.listExtendWith;have U:iO prog w (s.heap.push { cls:=.type "list",data:=.seq ([]:LU).toArray }) S ts:=hS.at λo e=>vZ _ e;refine wX (wpAny_typeOf (G _ U) ?_);have M2:s.heap.objs.size≠S:=ne_of_gt zq;have h1:Builtin.List.listSameRef (.ref s.heap.objs.size) (.ref S)=false:=by simp[Builtin.List.listSameRef,M2]
 have h2:(Value.type "set" == Value.type "list")=false:=by decide
 have h3:(Value.type "set" == Value.type "tuple")=false:=by decide
 simp only[h1,h2,h3,Bool.or_false,uV,if_false];refine wX (E6 (s:={ s with heap:=s.heap.push { cls:=.type "list",data:=.seq ([]:LU).toArray } }) U λh' d it vs fp St W Kp hk zr hfp Mw hperm hstr=>?_);have Km:iO prog w h' S ts:=U.at λo e=>hk _ _ e;refine wX (wpAny_holding ?_);unfold Builtin.List.listLengthHint;refine wX (wpAny_specialOf (G _ Km) PySem.F.slot_set_len.lookup ?_);wp_delta;refine wX (wpAny_isInstance (G _ Km) sub_set_self ?_);show wpAny _ A.in1 (typeOf (Value.ref S)>>=_) _ _ _;refine wX (wpAny_typeOf (G _ Km) ?_);refine wY ?_;rw[if_pos (by decide)];refine wX (wpAny_rule ?_);refine wX ?_;have M:(s.heap.push { cls:=.type "list",data:=.seq ([]:LU).toArray }).objs.size=s.heap.objs.size+1:=size_push' _ _;have PR:h'.get? s.heap.objs.size=some { cls:=.type "list",data:=.seq ([]:LU).toArray }:=hk _ _ (vY _ rfl);show wpAny _ A.in1 (updateSeq s.heap.objs.size (·.push .none)>>=λ_=>updateSeq s.heap.objs.size (·.pop)) _ _ _;refine wX (wpAny_updateSeq PR rfl ?_);have R8:=Heap.get?_update_self (Obj.mapSeq (·.push Value.none)) PR rfl;refine wpAny_updateSeq R8 rfl ?_;have VV:=Heap.get?_update_self (Obj.mapSeq (·.pop)) R8 rfl;have MW:s.heap.objs.size∉fp:=λhm=>by
  rcases hfp _ hm with z|z
  ·exact M2 z
  ·rw[M]at z;exact absurd z (Nat.not_succ_le_self _)
 have T7:∀b u,b≠s.heap.objs.size->h'.get? b=some u ->
   ((h'.update s.heap.objs.size (Obj.mapSeq (·.push Value.none))).update s.heap.objs.size (Obj.mapSeq (·.pop))).get? b=some u :=
  λb u hb e=>(Heap.get?_update_other _ _ (Ne.symm hb)).trans ((Heap.get?_update_other _ _ (Ne.symm hb)).trans e)
 have W0:=W A.in1 hh;refine wY ⟨plainId_quiet PySem.F.plain_extend_loop _,codeAny_extend_loopS W0.toS (fits_of_scanBound T) _ MW _ ts.length 0 _ _ _ rfl (uN _)
  (W0.frame 0 _ _ Kp λb hb u e=>T7 b u (λz=>MW (z ▸ hb)) e) VV (ItemsOf.nil _) λs' acc' c' hm hL' O=>?_⟩
 show wpAny _ A (load s.heap.objs.size>>=_) _ _ s';refine wX (wpAny_load hL' ?_);rw[←Mw]at O;refine wY ?_;show Q acc'.toList s';rw[CG O];refine hQ s' vs (λb u e=>hm.heap b u (λhb=>?_) (T7 b u (vS (vX e)) (hk _ _ (vZ _ e)))) hm.gens hm.os Mw hperm hstr;have hl:=vX e;simp only[mem_cons,not_mem_nil,or_false]at hb;rcases hb with rfl|rfl
 ·exact absurd hl (Nat.lt_irrefl _)
 ·rw[M]at zr;exact absurd (vQ hl (Nat.le_of_succ_le zr)) (Nat.lt_irrefl _)
def zS (hh:A.handled=none)(hS:iO prog w s.heap S ts)(Kq:ts.length<64)
  (hQ:∀(s1:Shared)(h':Heap)(a:Addr)(out:AV)(n:Nat)(G:LS),(∀b u,s.heap.get? b=some u->s1.heap.get? b=some u)->s1.os=s.os->s1.gens=s.gens->(∀b u,s1.heap.get? b=some u->h'.get? b=some u)->s1.heap.objs.size<=a->h'.get? a=some (seqObj "list" out n) ->
   StrsAre out.toList G->G.Perm ts->sortedS G=true->Q (.ref a) { s1 with heap:=h' }):
  wpAny (model prog w) A (call (.builtin "sorted") [.ref S]) Q E s:=by
 refine Calls.call_function_entry kind_sorted plain_sorted entry_sorted (args_sorted1 _) ?_;unfold Builtin.«sorted»;refine wX (m:=checkCount "sorted" 1 1 _) (wY ?_);refine wX (xM (A:=A.in1) (by exact hh) hS λs1 vs hk hg hos U M hstr=>?_);have O:StrsAre vs (vs.map strOf):=strsAre_map vs hstr;refine wX (wpAny_newList ?_ (by rw[U,sizeLine_eq];omega));have T:(s1.heap.push (seqObj "list" vs.toArray 0)).get? s1.heap.objs.size=some (seqObj "list" vs.toArray 0):=vY _ rfl;show wpAny _ _ _ _ _ { s1 with heap:=s1.heap.push (seqObj "list" vs.toArray 0) };refine wX (wpAny_holding (wpAny_call_entry slot_list_sort ⟨_,T,rfl⟩ entry_list_sort (list_sort_treeK strKind_oneLt T O.keysOf (λv₁ v₂ aE e=>keyKind_strs (by rw[←e];exact O)) (by rw[U];exact Kq) λOY a1 a2=>⟨_,rfl,?_⟩) (args_list_sort _)));obtain⟨G,b1,b2,b3⟩:=sorted_out_str O a1 a2;obtain⟨e,he⟩:=sortedHeap_at (out:=(arrOf OY).map (·.2)) T;refine wY ⟨_,rfl,hQ s1 _ _ _ e G hk hos hg (λb u q=>?_) (vT _) he b1 (b2.trans M) b3⟩;have hl:=vX q;rw[sortedHeap_old (vS hl) (by rw[size_push'];exact lt_succ_of_lt hl)];exact vZ _ q
end
end DL
namespace DL
open PySem PySem.Spec PyProof.Rows L2
def vx (a b:Str):Prop:=¬b.cps.toList<a.cps.toList
def AX:ltCps b.cps.toList a.cps.toList=false↔vx a b:=by rw[ltCps_eq,decide_eq_false_iff_not];rfl
def t7 (h:vx a b)(k:vx b c):vx a c:=by
 unfold vx at *;exact not_lt.mpr (le_trans (not_lt.mp h) (not_lt.mp k))
def E7 (h:vx a b)(k:vx b a):a=b:=by
 have e:a.cps.toList=b.cps.toList:=le_antisymm (not_lt.mp h) (not_lt.mp k);obtain⟨a⟩:=a;obtain⟨b⟩:=b;have:a=b:=toList_inj.mp e;rw[this]
noncomputable def zT (x:Str):LS->LS
 |[]=>[x]
 |y::r=>if ltCps y.cps.toList x.cps.toList then y::zT x r else x::y::r
noncomputable def ln (l:LS):LS:=l.foldr zT []
theorem np (x:Str):∀l,(zT x l).Perm (x::l)
 |[]=>List.Perm.refl _
 |y::r=>by
  unfold zT;split
  ·exact((np x r).cons y).trans (List.Perm.swap x y r)
  ·exact List.Perm.refl _
theorem gb:∀l,(ln l).Perm l
 |[]=>List.Perm.refl _
 |x::l=>(np x (ln l)).trans ((gb l).cons x)
theorem t8 (x:Str):∀l,l.Pairwise vx->(zT x l).Pairwise vx
 |[],_=>by simp[zT]
 |y::r,h=>by
  obtain⟨h1,h2⟩:=pairwise_cons.mp h;unfold zT;split
  ·rename_i hl;refine pairwise_cons.mpr ⟨λz hz=>?_,t8 x r h2⟩;rcases vP ((np x r).mem_iff.mp hz)with rfl|hz
   ·rw[ltCps_eq,decide_eq_true_eq]at hl;exact λk=>lt_irrefl _ (lt_trans hl k)
   ·exact h1 z hz
  ·rename_i hl;rw[not_eq_true]at hl;have G:vx x y:=AX.mp hl;refine pairwise_cons.mpr ⟨λz hz=>?_,h⟩;rcases vP hz with rfl|hz
   ·exact G
   ·exact t7 G (h1 z hz)
theorem pO:∀l,(ln l).Pairwise vx
 |[]=>List.Pairwise.nil
 |x::l=>t8 x _ (pO l)
theorem nW:∀(l:LS)(p:Str),risingS p l=true->(p::l).Pairwise vx
 |[],p,_=>List.pairwise_singleton _ _
 |x::r,p,h=>by
  have h':(!ltCps x.cps.toList p.cps.toList && risingS x r)=true:=h;rw[vC]at h';have G:vx p x:=AX.mp (by simpa using h'.1);have M:=nW r x h'.2;refine pairwise_cons.mpr ⟨λz hz=>?_,M⟩;rcases vP hz with rfl|hz
  ·exact G
  ·exact t7 G ((pairwise_cons.mp M).1 z hz)
theorem xN:∀(l:LS),sortedS l=true->l.Pairwise vx
 |[],_=>List.Pairwise.nil
 |x::r,h=>nW r x h
def xO (a:Str):vx a a:=lt_irrefl _
theorem pP:∀(M G:LS),M.Perm G->M.Pairwise vx->G.Pairwise vx->M=G
 |[],G,p,_,_=>(nil_perm.mp p).symm
 |x::U,[],p,_,_=>absurd p.length_eq (by simp)
 |x::U,y::r2,p,h1,h2=>by
  have O:vx x y:=by
   rcases vP (p.mem_iff.mpr (mX ..))with z|z
   ·rw[z];exact xO _
   ·exact(pairwise_cons.mp h1).1 y z
  have T:vx y x:=by
   rcases vP (p.mem_iff.mp (mX ..))with z|z
   ·rw[z];exact xO _
   ·exact(pairwise_cons.mp h2).1 x z
  have e:=E7 O T;subst e;rw[pP U r2 (List.Perm.cons_inv p) (pairwise_cons.mp h1).2 (pairwise_cons.mp h2).2]
def CH (p:l'.Perm l)(h:sortedS l'=true):l'=ln l:=pP _ _ (p.trans (gb l).symm) (xN _ h) (pO l)
section
variable {X:Cx}
noncomputable def E8 (X:Cx)(S:Addr)(G:LS):HO:=.ext λh=>iO X.prog X.w h S G
def nq (I:Inv X ae σ H s)(k:∀b u,s.heap.get? b=some u->s1.heap.get? b=some u)(ho:s1.os=s.os)(G:s1.gens=s.gens):Inv X ae σ H s1:=by
 have I1:=I.step (g':=s.gens) (d':=s1.drawn) (t':=s1.toks) (h':=s1.heap) (H':=H) (ch:=[]) (λ_ z=>nomatch z) (λb o _ _ _ e _=>k b o e) (λb o _ _ _ e _=>⟨o.slots,k b o e⟩) (λ_ _ _ _ n=>n)
  (λb o _ e=>⟨o,k b o e⟩) (λ_ _ e=>e) (λ_ _ _ e=>e) (λ_ _ e=>e) (λm hm=>?_) (I.hok.kept k) I.bare
 ·obtain⟨h1,g1,d1,O,T⟩:=s1;cases ho;cases G
  exact I1
 ·obtain⟨o,es,M,ho,r⟩:=hm;exact⟨o,es,M,k _ o ho,r⟩
def xP (hc:X.calm=true):bW X (.type "set") (λxs H Q=>∃p ys G,xs=[.ref p]/\fT X.K H p ys/\(∀its,ba ys its->StrsAre its G)/\G.length<4000/\∀S,H S=none->Q (.ref S) (upd H S (E8 X S (iP G)))):=by
 intro ae s σ H xs us Q I r h;obtain⟨p,ys,G,rfl,hq,hs,T,q⟩:=h;obtain⟨u,rfl,U⟩:=gI r;cases U
 obtain⟨its,r',pl,hz⟩:=I.list hq;have M:=hs its r';have O:its.length=G.length:=by rw[←M.strs,vI]
 refine pL (I.ok.hd hc) pl.isList (by simpa using M) (by simp only[vH];unfold scanBound;omega) λh' tk hS hk=>?_;refine⟨.ref s.heap.objs.size,_,I.laid (t':=tk) (λb u e=>hk b u (vX e) e) (vT _) ?_,rfl,q _ (I.hok.fresh (vT _))⟩;refine⟨hS,?_,λh1 h2 z k=>z.at k⟩;obtain⟨o,_,_,_,ho,_⟩:=hS;exact⟨o,ho⟩
def oF (hc:X.calm=true):bW X (.builtin "sorted") (λxs H Q=>∃S M,xs=[.ref S]/\H S=some (E8 X S M)/\M.length<64/\∀l,H l=none->Q (.ref l) (upd H l (.lst ((ln M).map .str)))):=by
 intro ae s σ H xs us Q I r h;obtain⟨S,M,rfl,hS,O,q⟩:=h;obtain⟨u,rfl,rx⟩:=gI r;cases rx
 have hT:iO X.prog X.w s.heap S M:=(I.hok S _ hS).1;refine zS (I.ok.hd hc) hT O λs1 h' a out n ss' k1 ho hg k2 hp he T G U=>?_;have e:=CH G U;subst e;have I1:=nq I k1 ho hg;have hv:∀ {its:LU}{zs:LS},StrsAre its zs->ba (zs.map V.str) its:=λz=>by
  induction z with
  |nil=>exact .nil
  |cons x t _ ih=>exact .cons ⟨t,rfl⟩ ih
 refine⟨.ref a,_,I1.laid (t':=s1.toks) k2 hp (show bT X.prog X.w _ h' _ (.lst _)from ⟨?_,out.toList,n,hv T,he⟩),rfl,q _ (I1.hok.fresh hp)⟩;rw[vI,(gb M).length_eq,sizeLine_eq];omega
end
@[simp] def g8:D->OB
 |.lst ds=>(iD ds).bind λG=>if G.length<64 then some (.lst ((ln (iP G)).map .str),true)else none
 |_=>none
def xQ:bootBuiltins "sorted" = some (.builtin "sorted"):=by decide +kernel
def Oo:bootBuiltins "set" = some (.type "set"):=by decide +kernel
theorem pQ {K:Frag}{N:Hp}:∀(zs:LS),IsL K N (zs.map V.str) (zs.map D.str)
 |[]=>.nil
 |z::zs=>.cons (.str z) (pQ zs)
section
variable {X:Cx}{e:Expr}{pos pos2 p p2:Pos}
def pR (hc:X.calm=true)(m1:X.mg "sorted" = none)(m2:X.mg "set" = none)(he:JE X e f)(g1:Gl X "sorted":=by rfl)(g2:Gl X "set":=by rfl)
  (h1:starEach [e] X.env=(false,eval e X.env)::starEach [] X.env:=by rfl):JE X (.Call (.Name "sorted" p) [.Call (.Name "set" p2) [e] [] pos2] [] pos) (f1 g8 f):=by
 refine PE.to (wV (oF hc) g1 m1 xQ (gN (sK (xP hc) g2 m2 Oo (gN he jy h1) (he:=h1)) jy)) λσ H Q q=>?_;obtain⟨B,ρ,d',bb,sB,r,G,q⟩:=q;obtain⟨U,ex,G⟩:=oX G;refine⟨B,ρ,U.1,U.2,sB,r,ex,λv H1 N1 O i1 fr=>?_⟩;obtain⟨xd,xb⟩:=U;cases i1<;>try (simp[g8]at G;done)
 rename_i l0 vs ds h hl;simp only[g8]at G;obtain⟨T,ez,G⟩:=oX G;split at G
 ·rename_i Kq;cases G
  refine⟨_,_,T,rfl,O.nh.seq h,λits r'=>jX r' hl ez,by omega,λS hS=>⟨S,_,rfl,aC,lt_of_le_of_lt (pK T) Kq,λl M=>?_⟩⟩;have x2:=Ext.laid (o:=E8 X S (iP T)) O.nh hS;have x3:=Ext.laid (o:=.lst ((ln (iP T)).map V.str)) x2.nh M;have R9:H l=none:=((O.trans x2).hh).free M;exact q _ _ _ ((O.trans x2).trans x3) (.lst (fT.of aC) (pQ _)) λ_=>⟨_,_,_,rfl,rfl,R9,aC,pQ _⟩
 ·cases G
end
end DL
namespace DL
open PySem PySem.Spec PySem.W PyProof.Rows
inductive Run (n:Nat)(lt:Nat->Nat->Bool){α:Type}:KasT α->α->Prop where
 |ret (a:α):Run n lt (.ret a) a
 |ask {i j:Nat}{k:Bool->KasT α}{a:α}(hi:i<n) (hj:j<n) (h:Run n lt (k (lt i j)) a):Run n lt (.ask i j k) a
def Run.bind {n:Nat}{lt:Nat->Nat->Bool}{α G:Type}{t:KasT α}{f:α->KasT G}{a:α}{b:G}(h:Run n lt t a)(k:Run n lt (f a) b):Run n lt (t.bind f) b:=by
 induction h with
 |ret a=>exact k
 |ask hi hj _ M=>exact .ask hi hj (M k)
def Run.wp {n:Nat}{lt:Nat->Nat->Bool}{α:Type}{G:Nat->Nat->(Bool->Shared->Prop)->Shared->Prop}{Q:α->Shared->Prop}{t:KasT α}{a:α}(J:Shared->Prop)
  (hc:∀i j C s,i<n->j<n->J s->(∀s',J s'->C (lt i j) s')->G i j C s) (h:Run n lt t a):∀ {s:Shared},J s->(∀s',J s'->Q a s')->t.kasWp G Q s:=by
 induction h with
 |ret a=>intro s M O;exact O s M
 |ask hi hj _ U=>intro s M O;exact hc _ _ _ _ hi hj M λs' T=>U T O
section
variable {n:Nat}{rk:Nat->Int}
noncomputable abbrev pT (rk:Nat->Int)(i j:Nat):Bool:=decide (rk i<rk j)
noncomputable def cy (rk:Nat->Int)(p:Array Nat)(k:Nat):Int:=rk (p.getD k 0)
structure oK (n:Nat)(p:Array Nat):Prop where
 size:p.size=n
 perm:p.toList.Perm (List.range n)
def oK.lt {p:Array Nat}(h:oK n p){k:Nat}(hk:k<n):p.getD k 0<n:=by
 have G:k<p.size:=by rw[h.size];exact hk
 have:p.getD k 0=p[k]:=by rw[getD_eq_getD_getElem?,getElem?_eq_getElem G];rfl
 rw[this];exact mem_range.mp (h.perm.mem_iff.mp (by simp))
def oK.rev {p:Array Nat}(h:oK n p)(i j:Nat):oK n (kas_rev p i j) :=
 ⟨(mirror_size _ _ _ _).trans h.size,(Array.perm_iff_toList_perm.mp (mirror_perm p i j _)).trans h.perm⟩
def oK.bub {p:Array Nat}(h:oK n p)(k d:Nat):oK n (bubble p k d) :=
 ⟨(bubble_size _ _ _).trans h.size,(Array.perm_iff_toList_perm.mp (bubble_perm p k d)).trans h.perm⟩
def vy {p:Array Nat}{i j:Nat}(hj:j<=p.size)(k:Nat):cy rk (kas_rev p i j) k=if i<=k/\k<j then cy rk p (i+j - 1 - k)else cy rk p k:=by
 unfold cy kas_rev;rw[getD_eq_getD_getElem?,getElem?_mirror_all hj];split<;>rw[getD_eq_getD_getElem?]
def E9 {p:Array Nat}{G d:Nat}(hs:G<p.size)(hd:d<=G)(k:Nat):cy rk (bubble p G d) k=if k=G - d then cy rk p G else if G - d<k/\k<=G then cy rk p (k - 1)else cy rk p k:=by
 unfold cy;simp only[getD_eq_getD_getElem?];rw[getElem?_bubble hs d hd];repeat' split
 all_goals rfl
def Up (rk:Nat->Int)(p:Array Nat)(m:Nat):Prop:=∀i j,i<=j->j<m->cy rk p i<=cy rk p j
def vz (rk:Nat->Int)(p:Array Nat)(m:Nat):Prop:=∀i j,i<=j->j<m->cy rk p j<=cy rk p i
def LJ (p:Array Nat):Up rk p 1:=λi j h1 h2=>by
 have:i=j:=by omega
 subst this;exact le_refl _
theorem v0 {p:Array Nat}(h:oK n p){r:Nat}(hr:r<=n):∀(f m:Nat),r - m=f->1<=m->m<=r->Up rk p m->∃G,Run n (pT rk) (kas_asc p f m) G/\m<=G/\G<=r/\Up rk p G/\(G<r->cy rk p G<cy rk p (G - 1))
 |0,m,hf,h1,hm,hu=>⟨m,.ret m,vT _,hm,hu,λz=>by omega⟩
 |f+1,m,hf,h1,hm,hu=>by
  have T:=h.lt (k:=m) (by omega);have U:=h.lt (k:=m - 1) (by omega);by_cases hc:cy rk p m<cy rk p (m - 1)
  ·refine⟨m,.ask T U ?_,vT _,hm,hu,λ_=>hc⟩;have:pT rk (p.getD m 0) (p.getD (m - 1) 0)=true:=sv hc;rw[this,if_pos rfl];exact .ret m
  ·have M:Up rk p (m+1):=λi j O hj=>by
    by_cases e:j=m
    ·subst e;by_cases e2:i=j
     ·subst e2;exact le_refl _
     ·have:=hu i (j - 1) (by omega) (by omega);omega
    ·exact hu i j O (by omega)
   obtain⟨G,q1,q2,q3,q4,q5⟩:=v0 h hr f (m+1) (by omega) (by omega) (by omega) M;refine⟨G,.ask T U ?_,by omega,q3,q4,q5⟩;have:pT rk (p.getD m 0) (p.getD (m - 1) 0)=false:=MO hc;rw[this,if_neg uX];exact q1
def HH (rk:Nat->Int)(p:Array Nat)(m q:Nat):Prop:=q+1<=m/\∀k,m - (q+1)<=k->k<m->cy rk p k=cy rk p (m - 1)
def xR {p:Array Nat}{m q:Nat}(hs:m<=p.size)(hf:HH rk p m q)(k:Nat):cy rk (kas_rev p (m - (q+1)) m) k=cy rk p k:=by
 rw[vy hs];split
 ·rename_i hk;have h0:=hf.1;rw[hf.2 k hk.1 hk.2,hf.2 _ (by omega) (by omega)]
 ·rfl
def AY {p G:Array Nat}{m:Nat}(e:∀k,cy rk G k=cy rk p k)(h:vz rk p m):vz rk G m:=λi j h1 h2=>by rw[e,e];exact h i j h1 h2
def pU (p:Array Nat){m:Nat}(h:1<=m):HH rk p m 0:=⟨h,λk h1 h2=>by
 have:k=m - 1:=by omega
 rw[this]⟩
theorem mo {r:Nat}(hr:r<=n):∀(f:Nat)(p:Array Nat)(m q:Nat),oK n p->r - m=f->1<=m->m<=r->vz rk p m->HH rk p m q->∃G M U,Run n (pT rk) (kas_desc f p m q) (G,M,U)/\oK n G/\m<=M/\M<=r/\vz rk G M/\HH rk G M U
 |0,p,m,q,h,hf,h1,hm,hd,hq=>⟨p,m,q,.ret _,h,vT _,hm,hd,hq⟩
 |f+1,p,m,q,h,hf,h1,hm,hd,hq=>by
  have a1:=h.lt (k:=m) (by omega);have a2:=h.lt (k:=m - 1) (by omega);have step:∀G:Array Nat,(∀k,cy rk G k=cy rk p k)->cy rk p m<=cy rk p (m - 1)->vz rk G (m+1):=λG e Js i j hij hj=>by
   rw[e,e];by_cases z:j=m
   ·subst z;by_cases z2:i=j
    ·subst z2;exact le_refl _
    ·have:=hd i (j - 1) (by omega) (by omega);omega
   ·exact hd i j hij (by omega)
  by_cases hc:cy rk p m<cy rk p (m - 1)
  ·have O:pT rk (p.getD m 0) (p.getD (m - 1) 0)=true:=sv hc;by_cases hq0:q > 0
   ·have e:=xR (p:=p) (by rw[h.size];omega) hq;obtain⟨G,M,U,g1,g2,g3,g4,g5,g6⟩:=mo hr f (kas_rev p (m - (q+1)) m) (m+1) 0 (h.rev _ _) (by omega) (by omega) (by omega) (step _ e (by omega)) (pU _ (by omega));refine⟨G,M,U,.ask a1 a2 ?_,g2,by omega,g4,g5,g6⟩;rw[O,if_pos rfl,if_pos hq0];exact g1
   ·obtain⟨G,M,U,g1,g2,g3,g4,g5,g6⟩:=mo hr f p (m+1) 0 h (by omega) (by omega) (by omega) (step _ (λ_=>rfl) (by omega)) (pU _ (by omega));refine⟨G,M,U,.ask a1 a2 ?_,g2,by omega,g4,g5,g6⟩;rw[O,if_pos rfl,if_neg hq0];exact g1
  ·have O:pT rk (p.getD m 0) (p.getD (m - 1) 0)=false:=MO hc;by_cases Kr:cy rk p (m - 1)<cy rk p m
   ·have T:pT rk (p.getD (m - 1) 0) (p.getD m 0)=true:=sv Kr;refine⟨p,m,q,.ask a1 a2 ?_,h,vT _,hm,hd,hq⟩;rw[O,if_neg uX];refine .ask a2 a1 ?_;rw[T,if_pos rfl];exact .ret _
   ·have T:pT rk (p.getD (m - 1) 0) (p.getD m 0)=false:=MO Kr;have he:cy rk p m=cy rk p (m - 1):=by omega
    obtain⟨G,M,U,g1,g2,g3,g4,g5,g6⟩:=mo hr f p (m+1) (q+1) h (by omega) (by omega) (by omega) (step _ (λ_=>rfl) (by omega)) ⟨by have:=hq.1;omega,λk k1 k2=>by
     rw[Nat.add_sub_cancel];by_cases z:k=m
     ·rw[z]
     ·rw[hq.2 k (by omega) (by omega),he]⟩
    refine⟨G,M,U,.ask a1 a2 ?_,g2,by omega,g4,g5,g6⟩;rw[O,if_neg uX];refine .ask a2 a1 ?_;rw[T,if_neg uX];exact g1
def xS {r:Nat}(hr:r<=n){p:Array Nat}(h:oK n p){m:Nat}(h1:1<=m)(hm:m<=r)(hd:vz rk p m):∃G M,Run n (pT rk) (kas_tail3 m r p) (G,M)/\oK n M/\1<=G/\G<=r/\Up rk M G:=by
 have hu:Up rk (kas_rev p 0 m) m:=λi j O hj=>by
  rw[vy (by rw[h.size];omega),vy (by rw[h.size];omega),if_pos (by omega),if_pos (by omega)];exact hd _ _ (by omega) (by omega)
 obtain⟨G,T,q2,U,q4,_⟩:=v0 (h.rev 0 m) hr (r - m) m rfl h1 hm hu;exact⟨G,_,T.bind (.ret _),h.rev 0 m,by omega,U,q4⟩
def xT {r:Nat}(hr:r<=n){p:Array Nat}(h:oK n p){m:Nat}(hm:m+1<=r)(hd:vz rk p (m+1)):∃G M,Run n (pT rk) (kas_descPart m r p) (G,M)/\oK n M/\1<=G/\G<=r/\Up rk M G:=by
 obtain⟨p1,O,q1,g1,T,g3,g4,g5,g6⟩:=mo hr (r - (m+1)) p (m+1) 0 h rfl (by omega) hm hd (pU _ (by omega));by_cases hq:q1 > 0
 ·obtain⟨G,M,k1,k2,U,k4,k5⟩:=xS hr (T.rev (O - (q1+1)) O) (m:=O) (by omega) g4 (AY (xR (by rw[T.size];omega) g6) g5);exact⟨G,M,g1.bind (by dsimp only;rw[if_pos hq];exact k1),k2,U,k4,k5⟩
 ·obtain⟨G,M,k1,k2,U,k4,k5⟩:=xS hr T (m:=O) (by omega) g4 g5;exact⟨G,M,g1.bind (by dsimp only;rw[if_neg hq];exact k1),k2,U,k4,k5⟩
def CJ {p:Array Nat}(h:oK n p)(hn:1<=n):∃M O,Run n (pT rk) (kas_count n p) (M,O)/\oK n O/\1<=M/\M<=n/\Up rk O M:=by
 obtain⟨m,q1,q2,q3,q4,q5⟩:=v0 h (vT n) (n - 1) 1 rfl (vT 1) hn (LJ (rk:=rk) p);by_cases e:m=n
 ·exact⟨m,p,q1.bind (by rw[if_pos (by simp[e])];exact .ret _),h,q2,q3,q4⟩
 ·have U:=q5 (by omega);have e1:¬(m == n)=true:=by simp[e]
  by_cases T:m > 1
  ·by_cases hc:cy rk p 0<cy rk p (m - 1)
   ·refine⟨m,p,q1.bind ?_,h,q2,q3,q4⟩;rw[if_neg e1,if_pos T];refine .ask (h.lt (by omega)) (h.lt (by omega)) ?_;have:pT rk (p.getD 0 0) (p.getD (m - 1) 0)=true:=sv hc;rw[this,if_pos rfl];exact .ret _
   ·have G:∀k,k<m->cy rk p k=cy rk p 0:=λk hk=>by
     have z1:=q4 0 k (by omega) hk;have z2:=q4 k (m - 1) (by omega) (by omega);omega
    have er:∀k,cy rk (kas_rev p 0 m) k=cy rk p k:=λk=>by
     rw[vy (by rw[h.size];omega)];split
     ·rename_i z;rw[G _ (by omega),G k z.2]
     ·rfl
    have hd:vz rk p (m+1):=λi j hij hj=>by
     by_cases z:j=m
     ·subst z;by_cases z2:i=j
      ·subst z2;exact le_refl _
      ·rw[G i (by omega)];rw[G (j - 1) (by omega)]at U;omega
     ·rw[G i (by omega),G j (by omega)];exact le_refl _
    obtain⟨M,O,k1,k2,k3,k4,k5⟩:=xT (vT n) (h.rev 0 m) (m:=m) (by omega) (AY er hd);refine⟨M,O,q1.bind ?_,k2,k3,k4,k5⟩;rw[if_neg e1,if_pos T];refine .ask (h.lt (by omega)) (h.lt (by omega)) ?_;have:pT rk (p.getD 0 0) (p.getD (m - 1) 0)=false:=MO hc;rw[this,if_neg uX];exact k1
  ·have em:m=1:=by omega
   subst em;have hd:vz rk p 2:=λi j hij hj=>by
    by_cases z2:i=j
    ·subst z2;exact le_refl _
    ·have:i=0:=by omega
     have:j=1:=by omega
     subst_vars;have:=U;simp at this;omega
   obtain⟨M,O,k1,k2,k3,k4,k5⟩:=xT (vT n) h (m:=1) (by omega) hd;refine⟨M,O,q1.bind ?_,k2,k3,k4,k5⟩;rw[if_neg e1,if_neg T];exact k1
theorem nu {p:Array Nat}(h:oK n p){k:Nat}(hk:k<n)(hu:Up rk p k):∀(f l r:Nat),r - l<=f->l<=r->r<=k->(∀i,i<l->cy rk p i<=cy rk p k)->(∀i,r<=i->i<k->cy rk p k<cy rk p i) ->
  ∃G,Run n (pT rk) (kas_place p k f l r) G/\G<=k/\(∀i,i<G->cy rk p i<=cy rk p k)/\(∀i,G<=i->i<k->cy rk p k<cy rk p i)
 |0,l,r,hf,hl,hr,h1,h2=>⟨l,.ret l,by omega,h1,λi a b=>h2 i (by omega) b⟩
 |f+1,l,r,hf,hl,hr,h1,h2=>by
  by_cases M:l ≥ r
  ·refine⟨l,?_,by omega,h1,λi a b=>h2 i (by omega) b⟩;unfold kas_place;rw[if_pos M];exact .ret l
  ·by_cases hc:cy rk p k<cy rk p ((l+r) / 2)
   ·obtain⟨G,O,T,U,q4⟩:=nu h hk hu f l ((l+r) / 2) (by omega) (by omega) (by omega) h1 λi a b=>by
     have:=hu ((l+r) / 2) i a b;omega
    refine⟨G,?_,T,U,q4⟩;unfold kas_place;rw[if_neg M];refine .ask (h.lt (by omega)) (h.lt (by omega)) ?_;have:pT rk (p.getD k 0) (p.getD ((l+r) / 2) 0)=true:=sv hc;rw[this,if_pos rfl];exact O
   ·obtain⟨G,O,T,U,q4⟩:=nu h hk hu f ((l+r) / 2+1) r (by omega) (by omega) hr (λi a=>by
     have:=hu i ((l+r) / 2) (by omega) (by omega);omega) h2
    refine⟨G,?_,T,U,q4⟩;unfold kas_place;rw[if_neg M];refine .ask (h.lt (by omega)) (h.lt (by omega)) ?_;have:pT rk (p.getD k 0) (p.getD ((l+r) / 2) 0)=false:=MO hc;rw[this,if_neg uX];exact O
theorem AZ:∀(f:Nat)(p:Array Nat)(k:Nat),oK n p->n - k=f->k<=n->Up rk p k->∃G,Run n (pT rk) (kas_bin f p k) G/\oK n G/\Up rk G n
 |0,p,k,h,hf,hk,hu=>⟨p,.ret p,h,(show k=n by omega) ▸ hu⟩
 |f+1,p,k,h,hf,hk,hu=>by
  have M:k<n:=by omega
  obtain⟨l,q1,q2,q3,q4⟩:=nu h M hu k 0 k (by omega) (by omega) (vT _) (λi z=>by omega) (λi a b=>by omega);have hsz:k<p.size:=by rw[h.size];exact M
  have T:Up rk (bubble p k (k - l)) (k+1):=λi j U hj=>by
   rw[E9 hsz (by omega),E9 hsz (by omega)];have e:k - (k - l)=l:=by omega
   rw[e];by_cases i1:i=l
   ·rw[if_pos i1];by_cases O:j=l
    ·rw[if_pos O];exact le_refl _
    ·rw[if_neg O,if_pos (by omega)];have:=q4 (j - 1) (by omega) (by omega);omega
   ·rw[if_neg i1];by_cases i2:l<i/\i<=k
    ·rw[if_pos i2,if_neg (by omega),if_pos (by omega)];exact hu _ _ (by omega) (by omega)
    ·rw[if_neg i2];by_cases O:j=l
     ·rw[if_pos O];exact q3 i (by omega)
     ·rw[if_neg O];by_cases j2:l<j/\j<=k
      ·rw[if_pos j2];exact hu _ _ (by omega) (by omega)
      ·rw[if_neg j2];exact hu _ _ U (by omega)
  obtain⟨G,k1,k2,k3⟩:=AZ f (bubble p k (k - l)) (k+1) (h.bub _ _) (by omega) (by omega) T;exact⟨G,q1.bind k1,k2,k3⟩
def EA (hn:1<=n):∃p,Run n (pT rk) (kas_sort n) p/\oK n p/\Up rk p n:=by
 have h0:oK n (List.toArray (List.range n)):=⟨by simp,by simp⟩;obtain⟨m,p,M,O,q3,q4,T⟩:=CJ (rk:=rk) h0 hn;by_cases e:m<n
 ·have G:max m 1=m:=by omega
  obtain⟨U,k1,k2,k3⟩:=AZ (n - max m 1) p (max m 1) O rfl (by omega) (by rw[G];exact T);exact⟨U,M.bind (by dsimp only;rw[if_pos e];exact k1),k2,k3⟩
 ·have:m=n:=by omega
  subst this;exact⟨p,M.bind (by dsimp only;rw[if_neg e];exact .ret _),O,T⟩
end
def kO {a b c:LI}(h:a<b)(k:b<c):a<c:=lt_trans h k
def CK {a b c:LI}(h:¬b<a)(k:¬c<b):¬c<a:=not_lt.mpr (le_trans (not_lt.mp h) (not_lt.mp k))
def EB {a b:LI}(h:¬b<a)(k:¬a<b):a=b:=le_antisymm (not_lt.mp h) (not_lt.mp k)
section
variable {α:Type}(f:α->LI)
def G0 (a b:α):Prop:=¬f b<f a
noncomputable def nv (x:α):List α->List α
 |[]=>[x]
 |y::r=>if f y<f x then y::nv x r else x::y::r
noncomputable def eI (l:List α):List α:=l.foldr (nv f) []
theorem nw (x:α):∀l,(nv f x l).Perm (x::l)
 |[]=>List.Perm.refl _
 |y::r=>by
  unfold nv;split
  ·exact((nw x r).cons y).trans (List.Perm.swap x y r)
  ·exact List.Perm.refl _
theorem b7:∀l,(eI f l).Perm l
 |[]=>List.Perm.refl _
 |x::l=>(nw f x (eI f l)).trans ((b7 l).cons x)
theorem tE (x:α):∀l,l.Pairwise (G0 f)->(nv f x l).Pairwise (G0 f)
 |[],_=>by simp[nv]
 |y::r,h=>by
  obtain⟨h1,h2⟩:=pairwise_cons.mp h;unfold nv;split
  ·rename_i hl;refine pairwise_cons.mpr ⟨λz hz=>?_,tE x r h2⟩;rcases vP ((nw f x r).mem_iff.mp hz)with rfl|hz
   ·exact λk=>lt_irrefl _ (kO hl k)
   ·exact h1 z hz
  ·rename_i hl;refine pairwise_cons.mpr ⟨λz hz=>?_,h⟩;rcases vP hz with rfl|hz
   ·exact hl
   ·exact CK hl (h1 z hz)
theorem hU:∀l,(eI f l).Pairwise (G0 f)
 |[]=>List.Pairwise.nil
 |x::l=>tE f x _ (hU l)
theorem tF:∀(G M:List α),(∀x∈G,∀y∈G,f x=f y->x=y)->G.Perm M->G.Pairwise (G0 f)->M.Pairwise (G0 f)->G=M
 |[],M,_,p,_,_=>(nil_perm.mp p).symm
 |x::O,[],_,p,_,_=>absurd p.length_eq (by simp)
 |x::O,y::r2,hi,p,h1,h2=>by
  have hy:y∈x::O:=p.mem_iff.mpr (mX ..);have T:G0 f x y:=by
   rcases vP hy with z|z
   ·rw[z];exact lt_irrefl _
   ·exact(pairwise_cons.mp h1).1 y z
  have U:G0 f y x:=by
   rcases vP (p.mem_iff.mp (mX ..))with z|z
   ·rw[z];exact lt_irrefl _
   ·exact(pairwise_cons.mp h2).1 x z
  have e:x=y:=hi x (mX ..) y hy (EB T U);subst e;rw[tF O r2 (λa ha b hb=>hi a (mZ _ ha) b (mZ _ hb)) (List.Perm.cons_inv p) (pairwise_cons.mp h1).2 (pairwise_cons.mp h2).2]
theorem jY (hi:∀x∈l,∀y∈l,f x=f y->x=y)(p:l'.Perm l)(h:l'.Pairwise (G0 f)):l'=eI f l :=
 tF f _ _ (λx hx y hy=>hi x (p.mem_iff.mp hx) y (p.mem_iff.mp hy)) (p.trans (b7 f l).symm) h (hU f l)
end
theorem lG {α:Type}{p q:α->Bool}(h:∀x,p x=true->q x=true):∀l:List α,(l.filter p).length<=(l.filter q).length
 |[]=>vT _
 |x::l=>by
  have G:=lG h l;rw[filter_cons,filter_cons];by_cases z:p x=true
  ·rw[if_pos z,if_pos (h x z)];simp only[vE];omega
  ·rw[if_neg z];split
   ·simp only[vE];omega
   ·exact G
noncomputable def mq (cs:List LI)(c:LI):Int:=((cs.filter λx=>decide (x<c)).length:Nat)
def HI {cs:List LI}{a b:LI}(h:¬b<a):mq cs a<=mq cs b:=by
 unfold mq;refine Int.ofNat_le.mpr (lG (λx hx=>?_) cs);rw[decide_eq_true_eq]at hx ⊢;rcases List.le_iff_lt_or_eq.mp (not_lt.mp h)with z|z
 ·exact kO hx z
 ·rw[←z];exact hx
def Ba {cs:List LI}{a b:LI}(ha:a∈cs)(h:a<b):mq cs a<mq cs b:=by
 unfold mq;apply Int.ofNat_lt.mpr;induction cs with
 |nil=>simp at ha
 |cons c cs M=>
  have G:∀l:List LI,(l.filter λx=>decide (x<a)).length<=(l.filter λx=>decide (x<b)).length:=λl=>
   lG (λx hx=>by rw[decide_eq_true_eq]at hx ⊢;exact kO hx h) l
  rw[filter_cons,filter_cons];rcases vP ha with rfl|ha
  ·rw[if_neg (by simp[lt_irrefl]),if_pos (by simpa using h)];have:=G cs;simp only[vE];omega
  ·have:=M ha;by_cases z:c<a
   ·rw[if_pos (by simpa using z),if_pos (by simpa using kO z h)];simp only[vE];omega
   ·rw[if_neg (by simpa using z)];split
    ·simp only[vE];omega
    ·exact this
def xU (ha:a∈cs):decide (mq cs a<mq cs b)=decide (a<b):=by
 by_cases h:a<b
 ·rw[sv h,sv (Ba ha h)]
 ·rw[MO h,MO];have:=HI (cs:=cs) h;omega
inductive At where
 |i (n:Int)
 |s (z:Str)
noncomputable def LL:At->LI
 |.i n=>[n]
 |.s z=>z.cps.toList.map (λ(c:Nat)=>(c:Int)+1)++[0]
noncomputable def cQ (xs:List At):LI:=xs.flatMap LL
noncomputable def br:List At->List At->Option Bool
 |[],ys=>some (!ys.isEmpty)
 |_::_,[]=>some false
 |.i a::xs,.i b::ys=>if a=b then br xs ys else some (decide (a<b))
 |.s a::xs,.s b::ys=>if a=b then br xs ys else some (decide (a.cps.toList<b.cps.toList))
 |_::_,_::_=>none
theorem wa:∀(a b:LN)(r G:LI),(a.map (λ(c:Nat)=>(c:Int)+1)++0::r)<(b.map (λ(c:Nat)=>(c:Int)+1)++0::G)↔a<b∨(a=b/\r<G)
 |[],[],r,G=>by simp[cons_lt_cons_iff]
 |[],y::b,r,G=>by simp[cons_lt_cons_iff]
 |x::a,[],r,G=>by simp[cons_lt_cons_iff];omega
 |x::a,y::b,r,G=>by
  rw[uY,uY,cons_append,cons_append,cons_lt_cons_iff,wa a b r G,cons_lt_cons_iff];constructor
  ·rintro (h|⟨h,k|⟨k1,k2⟩⟩)
   ·exact .inl (.inl (by omega))
   ·exact .inl (.inr ⟨by omega,k⟩)
   ·exact .inr ⟨by rw[k1,show x=y by omega],k2⟩
  ·rintro ((h|⟨h,k⟩)|⟨h,k⟩)
   ·exact .inl (by omega)
   ·exact .inr ⟨by omega,.inl k⟩
   ·injection h with h1 h2;exact .inr ⟨by omega,.inr ⟨h2,k⟩⟩
def jh (x:At)(xs:List At):cQ (x::xs)=LL x++cQ xs:=by unfold cQ;rw[uO]
def LM (x:At):LL x≠[]:=by cases x<;>simp[LL]
def Bb {a b:Str}:a.cps.toList=b.cps.toList↔a=b:=by
 constructor
 ·intro h;obtain⟨a⟩:=a;obtain⟨b⟩:=b;have:a=b:=toList_inj.mp h;rw[this]
 ·rintro rfl;rfl
theorem wb:∀(xs ys:List At)(b:Bool),br xs ys=some b->b=decide (cQ xs<cQ ys)
 |[],[],b,h=>by simp[br]at h;subst h;simp[cQ]
 |[],y::ys,b,h=>by
  simp[br]at h;subst h;rw[jh];cases e:LL y with
  |nil=>exact absurd e (LM y)
  |cons c cs=>simp[cQ]
 |x::xs,[],b,h=>by simp[br]at h;subst h;simp[cQ]
 |.i a::xs,.i c::ys,b,h=>by
  rw[br]at h;rw[jh,jh];show b=decide (a::cQ xs<c::cQ ys);split at h
  ·rename_i e;subst e;rw[wb xs ys b h];exact decide_eq_decide.mpr (by rw[cons_lt_cons_iff];simp)
  ·rename_i e;cases h
   exact decide_eq_decide.mpr (by rw[cons_lt_cons_iff];simp[e])
 |.s a::xs,.s c::ys,b,h=>by
  rw[br]at h;rw[jh,jh];have G:∀(z:Str)(r:LI),LL (.s z)++r=z.cps.toList.map (λ(c:Nat)=>(c:Int)+1)++0::r:=λz r=>by simp[LL]
  rw[G,G];split at h
  ·rename_i e;subst e;rw[wb xs ys b h];exact decide_eq_decide.mpr (by rw[wa];exact⟨λz=>.inr ⟨rfl,z⟩,λz=>z.elim (λq=>absurd q (lt_irrefl _)) (·.2)⟩)
  ·rename_i e;cases h
   exact decide_eq_decide.mpr (by rw[wa,Bb];exact⟨.inl,λz=>z.elim id λq=>absurd q.1 e⟩)
 |.i _::_,.s _::_,b,h=>by simp[br]at h
 |.s _::_,.i _::_,b,h=>by simp[br]at h
theorem zU:∀(xs ys:List At),br xs ys=some false->br ys xs=some false->xs=ys
 |[],[],_,_=>rfl
 |[],y::ys,h,_=>by simp[br]at h
 |x::xs,[],_,h=>by simp[br]at h
 |.i a::xs,.i c::ys,h,k=>by
  rw[br]at h k;by_cases e:a=c
  ·subst e;rw[if_pos rfl]at h k;rw[zU xs ys h k]
  ·rw[if_neg e]at h;rw[if_neg (Ne.symm e)]at k;simp at h k;omega
 |.s a::xs,.s c::ys,h,k=>by
  rw[br]at h k;by_cases e:a=c
  ·subst e;rw[if_pos rfl]at h k;rw[zU xs ys h k]
  ·rw[if_neg e]at h;rw[if_neg (Ne.symm e)]at k;simp only[Option.some.injEq,decide_eq_false_iff_not]at h k;exact absurd (Bb.mp (le_antisymm (not_lt.mp k) (not_lt.mp h))) e
 |.i _::_,.s _::_,h,_=>by simp[br]at h
 |.s _::_,.i _::_,h,_=>by simp[br]at h
noncomputable def eJ (ks:List (List At)):Bool:=ks.all λx=>ks.all λy=>(br x y).isSome
def gT (h:eJ ks=true)(hx:x∈ks)(hy:y∈ks):br x y=some (decide (cQ x<cQ y)):=by
 have:=uR (uR h x hx) y hy;obtain⟨b,e⟩:=uU this;rw[e,wb _ _ _ e]
def ny (h:eJ ks=true)(hx:x∈ks)(hy:y∈ks)(e:cQ x=cQ y):x=y:=by
 refine zU _ _ ?_ ?_
 ·rw[gT h hx hy,e,MO (lt_irrefl _)]
 ·rw[gT h hy hx,e,MO (lt_irrefl _)]
def zn:At->Value->Prop
 |.i n,v=>∃t,v=.int n t
 |.s z,v=>∃t,v=.str z t
def hV (h:Heap)(xs:List At)(v:Value):Prop:=∃a o its n,v=.ref a/\h.get? a=some o/\o.cls=.type "tuple"/\o.data=.seq its n/\Paired zn xs its.toList
noncomputable def fM (ks:List (List At)):Bool:=ks.all (λx=>match x with|.i _::_=>true|_=>false) || ks.all (λx=>match x with|.s _::_=>true|_=>false)
section
variable {prog:Program}{w:World}{A:Around}{E:QV}{s:Shared}
theorem pV:∀(xs ys:List At)(its G:LU)(i:Nat),Paired zn xs its->Paired zn ys G->br xs ys=some b->iB=decide (xs.length<ys.length)->Q b s->KatLex prog w A true iB Q (its.zip G) i s
 |[],ys,_,G,i,.nil,T,h,hf,q=>by
  rw[List.zip_nil_left];refine kat_nil ?_;cases ys with
  |nil=>simp[br]at h;subst h;rw[hf];exact q
  |cons y ys=>simp[br]at h;subst h;rw[hf];simpa using q
 |x::xs,[],_,_,i,_,.nil,h,hf,q=>by
  rw[List.zip_nil_right];refine kat_nil ?_;simp[br]at h;subst h;rw[hf];simpa using q
 |.i a::xs,.i c::ys,_,_,i,.cons U M,.cons T O,h,hf,q=>by
  obtain⟨t,rfl⟩:=U;obtain⟨u,rfl⟩:=T;rw[zip_cons_cons];refine kat_cons (wpAny_eqBool_int ?_);rw[br]at h;by_cases e:a=c
  ·rw[if_pos e]at h;rw[show(a == c)=true by simp[e]];exact kat_yes (pV xs ys _ _ (i+1) M O h (by rw[hf];simp) q)
  ·rw[if_neg e]at h;cases h
   rw[show(a == c)=false by simp[e]];refine kat_no ?_;cases hb:(true && i == 0) with
   |true=>exact oneLt_int q
   |false=>exact kat_one _ _ (PyProof.Rows.lt_int q)
 |.s a::xs,.s c::ys,_,_,i,.cons U M,.cons T O,h,hf,q=>by
  obtain⟨t,rfl⟩:=U;obtain⟨u,rfl⟩:=T;rw[zip_cons_cons];refine kat_cons (wpAny_eqBool_str ?_);rw[br]at h;by_cases e:a=c
  ·rw[if_pos e]at h;rw[sv e];exact kat_yes (pV xs ys _ _ (i+1) M O h (by rw[hf];simp) q)
  ·rw[if_neg e]at h;cases h
   rw[MO e];refine kat_no ?_;cases hb:(true && i == 0) with
   |true=>exact oneLt_str q
   |false=>exact kat_one _ _ (PySem.P.lt_str q)
 |.i _::_,.s _::_,_,_,_,_,_,h,_,_=>by simp[br]at h
 |.s _::_,.i _::_,_,_,_,_,_,h,_,_=>by simp[br]at h
theorem ge {α O:Type}{F:α->O->Prop}:∀ {G:List α}{M:List O},Paired F G M->G.length=M.length
 |_,_,.nil=>rfl
 |_,_,.cons _ t=>by simp[ge t]
def LO {Q:Bool->Shared->Prop}{xs ys:List At}{x y:Value}{b:Bool}(hx:hV s.heap xs x)(hy:hV s.heap ys y)(h:br xs ys=some b)(q:Q b s):wpAny (model prog w) A (keyLt' (tuples' true) x y) Q E s:=by
 obtain⟨a,o,its,n,rfl,ho,_,hd,r⟩:=hx;obtain⟨T,o',its',U,rfl,G,_,M,O⟩:=hy;refine kat_lt ho hd G M (pV xs ys _ _ 0 r O h ?_ q);rw[←vG,←vG,ge r,ge O]
theorem nX:∀ {ks:List (List At)}{vs:LU},Paired (hV h) ks vs->(∀k∈ks,k≠[])->∃fs,KatTups h vs fs/\fs.length=ks.length/\∀v∈fs,∃k r,(k::r)∈ks/\zn k v
 |_,_,.nil,_=>⟨[],trivial,rfl,by simp⟩
 |k::ks,_,.cons x t,G=>by
  obtain⟨fs,h1,h2,h3⟩:=nX t λz hz=>G z (mZ _ hz);obtain⟨a,o,its,n,rfl,ho,hc,hd,r⟩:=x;cases M:its.toList with
  |nil=>
   rw[M]at r;cases r
   exact absurd rfl (G [] (mX ..))
  |cons v vs=>
   rw[M]at r;obtain⟨p,O⟩:∃p,its[0]? = some v:=⟨(),by rw[←getElem?_toList,M];rfl⟩;cases r with
   |cons q qs=>
    rename_i k0 T;refine⟨v::fs,KatTups.cons ho hc hd O h1,by simp[h2],λu hu=>?_⟩;rcases vP hu with rfl|hu
    ·exact⟨k0,T,mX ..,q⟩
    ·obtain⟨k1,O,U,m2⟩:=h3 u hu;exact⟨k1,O,mZ _ U,m2⟩
def EC (hp:Paired (hV s.heap) ks vs)(hf:fM ks=true)(hn:0<ks.length)(q:Q (tuples' true) s):wpAny (model prog w) A (keyKind' vs.toArray) Q E s:=by
 have G:∀k∈ks,k≠[]:=λk hk z=>by
  subst z;unfold fM at hf;rw[or_eq_true]at hf;rcases hf with hf|hf
  ·have:=uR hf [] hk;simp at this
  ·have:=uR hf [] hk;simp at this
 obtain⟨fs,h1,h2,h3⟩:=nX hp G;unfold fM at hf;rw[or_eq_true]at hf;rcases hf with hf|hf
 ·refine kat_kind (T:=.type "int") h1 (by omega) (λv hv=>?_) (by decide) q;obtain⟨k,r,m,z⟩:=h3 v hv;have:=uR hf _ m;cases k with
  |i n=>obtain⟨t,rfl⟩:=z;exact .now
  |s M=>simp at this
 ·refine kat_kind (T:=.type "str") h1 (by omega) (λv hv=>?_) (by decide) q;obtain⟨k,r,m,z⟩:=h3 v hv;have:=uR hf _ m;cases k with
  |s M=>obtain⟨t,rfl⟩:=z;exact .now
  |i n=>simp at this
end
section
variable {prog:Program}{w:World}{A:Around}{E:QV}{s:Shared}
theorem fw {α O:Type}{F:α->O->Prop}(d:α)(e:O):∀ {G:List α}{M:List O},Paired F G M->∀ {i:Nat},i<G.length->F (G.getD i d) (M.getD i e)
 |_,_,.cons r t,0,_=>r
 |_,_,.cons r t,i+1,h=>by
  simp only[getD_cons_succ];exact fw d e t (by simpa using h)
 |_,_,.nil,i,h=>by simp at h
def G1 (ks:List (List At))(i:Nat):Int:=mq (ks.map cQ) (cQ (ks.getD i []))
def HJ {ks:List (List At)}{vs:LU}(hc:eJ ks=true)(hp:Paired (hV s.heap) ks vs):∀(i j:Nat)(C:Bool->Shared->Prop)(s1:Shared),i<ks.length->j<ks.length->s1=s->(∀s',s'=s->C (pT (G1 ks) i j) s')->kas_ask prog w A (tuples' true) vs i j C s1:=by
 intro i j C s1 hi hj e M;subst e;unfold kas_ask;have G:ks.getD i []∈ks:=by rw[vF,vU hi];exact getElem_mem hi
 have O:ks.getD j []∈ks:=by rw[vF,vU hj];exact getElem_mem hj
 refine LO (fw [] Value.none hp hi) (fw [] Value.none hp hj) (gT hc G O) ?_;have:=M s1 rfl;unfold pT G1 at this;rw[xU (uS ⟨_,G,rfl⟩)]at this;exact this
end
end DL
namespace DL
open PySem PySem.Spec PySem.W PyProof.Rows L2
noncomputable def JU:D->Option At
 |.int n=>some (.i n)
 |.str z=>some (.s z)
 |_=>none
def j8:LD->Option (List At)
 |[]=>some []
 |d::ds=>(JU d).bind λa=>(j8 ds).map (a :: ·)
def xV:D->Option (List At)
 |.tup es=>j8 es
 |_=>none
def dF:LD->Option (List (List At))
 |[]=>some []
 |d::ds=>(xV d).bind λa=>(dF ds).map (a :: ·)
def pW (ns:LI):LI:=eI (λn=>[n]) ns
theorem kP:∀ {ds:LD}{ks:List (List At)},dF ds=some ks->ks.length=ds.length
 |[],_,h=>by simp only[dF]at h;cases h;rfl
 |d::ds,_,h=>by
  simp only[dF]at h;obtain⟨a,h1,h⟩:=oX h;obtain⟨r,h2,h⟩:=oY h;subst h;simp[kP h2]
theorem tG:∀ {ds:LD}{ks:List (List At)},dF ds=some ks->∀ {i:Nat},i<ds.length->xV (ds.getD i .non)=some (ks.getD i [])
 |[],_,h,i,hi=>by simp at hi
 |d::ds,_,h,0,hi=>by
  simp only[dF]at h;obtain⟨a,h1,h⟩:=oX h;obtain⟨r,h2,h⟩:=oY h;subst h;exact h1
 |d::ds,_,h,i+1,hi=>by
  simp only[dF]at h;obtain⟨a,h1,h⟩:=oX h;obtain⟨r,h2,h⟩:=oY h;subst h;simp only[getD_cons_succ];exact tG h2 (by simpa using hi)
section
variable {X:Cx}
theorem xW {K:Frag}{B:Hp}:∀ {vs:LV}{es:LD}{k:List At}{its:LU},ba vs its->IsL K B vs es->j8 es=some k->Paired zn k its
 |_,_,_,_,.nil,.nil,h=>by simp only[j8]at h;cases h;exact .nil
 |_,_,_,_,.cons r G,.cons i M,h=>by
  simp only[j8]at h;obtain⟨a,h1,h⟩:=oX h;obtain⟨t,h2,h⟩:=oY h;subst h;refine .cons ?_ (xW G M h2);cases i<;>simp only[JU]at h1<;>cases h1
  ·exact r
  ·exact r
theorem oN {ae:AO}{σ:St}{H:Hp}{s:Shared}(I:Inv X ae σ H s):∀ {ys:LV}{ds:LD}{ks:List (List At)}{its:LU},ba ys its->IsL X.K H ys ds->dF ds=some ks->Paired (hV s.heap) ks its
 |_,_,_,_,.nil,.nil,h=>by simp only[dF]at h;cases h;exact .nil
 |_,_,_,_,.cons r G,.cons i M,h=>by
  simp only[dF]at h;obtain⟨a,h1,h⟩:=oX h;obtain⟨t,h2,h⟩:=oY h;subst h;refine .cons ?_ (oN I G M h2);cases i<;>simp only[xV]at h1<;>try (cases h1;done)
  rename_i hq hl;cases r
  obtain⟨its',O,⟨o,ho,hc,n,hd⟩,_⟩:=I.tuple hq;exact⟨_,o,_,n,rfl,ho,hc,hd,by simpa using xW O hl h1⟩
theorem Bc {K:Frag}{B:Hp}:∀ {vs:LV}{ds:LD},IsL K B vs ds->∀ {i:Nat},i<ds.length->Is K B (vs.getD i .non) (ds.getD i .non)
 |_,_,.cons h _,0,_=>h
 |_,_,.cons _ t,i+1,hi=>by
  simp only[getD_cons_succ];exact Bc t (by simpa using hi)
 |_,_,.nil,i,hi=>by simp at hi
theorem xX:∀ {vs:LV}{us:LU},ba vs us->∀ {i:Nat},i<vs.length->aY (vs.getD i .non) (us.getD i Value.none)
 |_,_,.cons h _,0,_=>h
 |_,_,.cons _ t,i+1,hi=>by
  simp only[getD_cons_succ];exact xX t (by simpa using hi)
 |_,_,.nil,i,hi=>by simp at hi
theorem xY {K:Frag}{B:Hp}{vs:LV}{ds:LD}(h:IsL K B vs ds):∀(l:LN),(∀i∈l,i<ds.length)->IsL K B (l.map λi=>vs.getD i .non) (l.map λi=>ds.getD i .non)
 |[],_=>.nil
 |i::l,hl=>.cons (Bc h (hl i (mX ..))) (xY h l λj hj=>hl j (mZ _ hj))
theorem tH (h:ba vs us):∀(l:LN),(∀i∈l,i<vs.length)->ba (l.map λi=>vs.getD i .non) (l.map λi=>us.getD i Value.none)
 |[],_=>.nil
 |i::l,hl=>.cons (xX h (hl i (mX ..))) (tH h l λj hj=>hl j (mZ _ hj))
end
section
variable {X:Cx}
theorem jd:∀ {its:LU}{zs:LI},IntsAre its zs->ba (zs.map V.int) its
 |_,_,.nil=>.nil
 |_,_,.cons x t r=>.cons ⟨t,rfl⟩ (jd r)
theorem pX {K:Frag}{N:Hp}:∀(zs:LI),IsL K N (zs.map V.int) (zs.map D.int)
 |[]=>.nil
 |z::zs=>.cons (.int z) (pX zs)
def ED (p:l'.Perm l)(h:l'.Pairwise (·<=·)):l'=pW l:=by
 refine jY _ (λx _ y _ e=>by injection e) p (h.imp λ{a b} hab=>?_);unfold G0;intro z;rw[cons_lt_cons_iff]at z;rcases z with z|⟨_,z⟩
 ·omega
 ·exact lt_irrefl _ z
end
end DL
namespace DL
open PySem PySem.Spec PyProof.Rows L2
section
variable {prog:Program}{w:World}{A:Around}{E:QV}{s:Shared}
def zV {a:Addr}{o:Obj}{its:AV}{n:Nat}{x:Value}{e:Value->Bool}{j:Nat}{P:PySem.Fin->Shared->Prop}(ho:s.heap.get? a=some o)(hd:o.data=.seq its n)
  (he:∀y∈its,MeetsSeq.EqGives y x (e y)) (hj:j<its.size) (zr:e its[j]=true) (M:∀m (hm:m<its.size),m<j->e its[m]=false)
  (h:P (.done (.ret (.int j s.toks))) { s with toks:=s.toks+1 }):wpAny (model prog w) A (Builtin.«tuple.index» ⟨[.ref a,x],[]⟩) P E s:=by
 show wpAny _ _ (Builtin.Tuple.tupleItemsOf (.ref a)>>=_) _ _ s;refine wX (wpAny_tupleItemsOf ho hd ?_);dsimp only;refine wX (wY (wX (wY (wX ?_))));rw[Std.Legacy.Range.forIn_eq_forIn_range'];refine wpAny_forIn_list _
  (λaE r s'=>r.1=none/\s'=s/\∃i,i<=j/\aE=List.range' i (its.size - i))
  _ ?_ ?_ _ _ ⟨rfl,rfl,0,uN _,?_⟩
 ·rintro k aE r s' ⟨hr,rfl,i,hi,hz⟩;have G:i<its.size:=by omega
  obtain⟨m,hm⟩:∃m,its.size - i=m+1:=⟨its.size - i - 1,by omega⟩;rw[hm,List.range'_succ]at hz;injection hz with O U;have O:=O.symm;subst O;subst U;have hg:its[i]? = some its[i]:=by simp[G]
  simp only[hg];refine wX (he _ (Array.getElem_mem G) prog w _ _ _ _ ?_);by_cases T:i=j
  ·subst T;rw[zr];simp only[if_true];refine wX ?_;show wpAny _ _ (mkInt (i:Int)>>=λv=>ret v) _ _ _;exact wX (wpAny_mkInt (wY (wY (wY h))))
  ·rw[M i G (by omega)];simp only[uV,if_false];exact wY ⟨rfl,rfl,i+1,by omega,by rw[show its.size - (i+1)=m by omega]⟩
 ·rintro⟨r1,r2⟩ s' ⟨hr,rfl,i,hi,hz⟩;exfalso;have:(List.range' i (its.size - i)).length=0:=by rw[←hz];rfl
  rw[List.length_range']at this;omega
 ·simp
end
theorem CRows.findT {K:Frag}{P:Params}(y:Str){ds:LD}:∀ {es:List DictEntry}{aN:List (Str×D)},CRows K P es aN->aN.lookup y=some (.tup ds) ->
  ∃e a its n oA,es.find? (λe=>Value.isStrOf y e.key)=some e/\e.val=.ref a/\K.lookup a=some ⟨.type "tuple",none,.seq its n,oA⟩/\j6 its.toList ds=true
 |_,_,.nil,h=>by simp at h
 |_,_,.tup (x:=x) (t:=t) (a:=a) (ds:=O) hh l f tl,h=>by
  by_cases e:y=x
  ·subst e;rw[lookup_cons_self]at h;cases h
   rw[vC]at f;exact⟨_,a,_,_,_,List.find?_cons_of_pos (by simp[Value.isStrOf]),rfl,l,f.2⟩
  ·rw[lookup_cons,beq_eq_false_iff_ne.mpr e]at h;have G:Value.isStrOf y (Value.str x t)=false:=by
    rw[eq_false_iff];intro z;obtain⟨t',q⟩:=Value.isStrOf_shape z;injection q with M;exact e M.symm
   simp only[find?_cons,G];exact tl.findT y h
 |_,_,.flat (x:=x) (t:=t) (u:=u) (d:=d) hh f tl,h=>by
  by_cases e:y=x
  ·subst e;rw[lookup_cons_self]at h;cases h
   cases u<;>simp[vn]at f
  ·rw[lookup_cons,beq_eq_false_iff_ne.mpr e]at h;have G:Value.isStrOf y (Value.str x t)=false:=by
    rw[eq_false_iff];intro z;obtain⟨t',q⟩:=Value.isStrOf_shape z;injection q with M;exact e M.symm
   simp only[find?_cons,G];exact tl.findT y h
section
variable {X:Cx}{b e:Expr}{pos:Pos}{x:Str}{p:Pos}
def QG (K:Frag):V->LV->Hp->VK->Prop:=λx xs H Q=>∃(a:Addr)(o:Obj)(its:AV)(n:Nat)(zs:LS)(y:Str),x=.ref a/\xs=[.str y]/\K.lookup a=some o/\o.cls=.type "tuple"/\o.data=.seq its n/\StrsAre its.toList zs/\zs.findIdx (· == y)<zs.length/\Q (.int (zs.findIdx (· == y):Nat)) H
noncomputable def JV (y:Str):Value->Bool
 |.str z _=>z == y
 |_=>false
theorem Bd:∀ {its:LU}{zs:LS},StrsAre its zs->∀(i:Nat)(hi:i<its.length),∃(h:i<zs.length)(t:Tok),its[i]=.str zs[i] t
 |_,_,.cons z t h,0,_=>⟨by simp,t,rfl⟩
 |_,_,.cons z t h,i+1,hi=>by
  obtain⟨h',t',e⟩:=Bd h i (by simpa using hi);exact⟨by simpa using h',t',by simpa using e⟩
 |_,_,.nil,i,hi=>by simp at hi
theorem xZ:∀ {its:LU}{zs:LS},StrsAre its zs->its.length=zs.length
 |_,_,.nil=>rfl
 |_,_,.cons _ _ h=>by rw[vE,vE,xZ h]
def EE:GP X "tuple.index" (QG X.K):=by
 intro ae s σ H x xs v us Q I O T h;obtain⟨a,o,its,n,zs,y,rfl,rfl,U,hc,hd,hz,hk,q⟩:=h;cases O
 obtain⟨u,rfl,⟨t,rfl⟩⟩:=T.one;have ho:=I.kIn a o U;have hl:=xZ hz;rw[vG]at hl;have at':∀(i:Nat)(hi:i<its.size),∃(h:i<zs.length)(t:Tok),its[i]=.str zs[i] t:=λi hi=>by
  obtain⟨h',t',e⟩:=Bd hz i (by simpa using hi);exact⟨h',t',by simpa using e⟩
 refine wpAny_call_entry PySem.F.slot_tuple_index ⟨o,ho,hc⟩ PySem.F.entry_tuple_index (zV (e:=JV y) (j:=zs.findIdx (· == y)) ho hd (λz hm=>?_) (by omega) ?_ (λm hm M=>?_) ⟨_,rfl,.int (zs.findIdx (· == y):Nat),H,I.tok _,⟨_,rfl⟩,q⟩) (PySem.F.args_tuple_index_2 _ _)
 ·obtain⟨i,hi,rfl⟩:=Array.mem_iff_getElem.mp hm;obtain⟨_,t',G⟩:=at' i hi;rw[G];exact eqGives_str _ _ _ _
 ·obtain⟨_,t',G⟩:=at' (zs.findIdx (· == y)) (by omega);rw[G];exact List.findIdx_getElem (p:=(· == y)) (w:=hk)
 ·obtain⟨_,t',G⟩:=at' m hm;rw[G];have:=List.not_of_lt_findIdx (p:=(· == y)) (xs:=zs) M;simpa [JV]using this
@[simp] def oG (aN:List (Str×D)):D->D->OB
 |.str y,.str z=>match aN.lookup y with
  |some (.tup ds)=>(iD ds).bind λzs=>if zs.findIdx (· == z)<zs.length then some (.int (zs.findIdx (· == z):Nat),false)else none
  |_=>none
 |_,_=>none
def HK {aN:List (Str×D)}{f g:FE}{di cx:Pos}(h:∃d,X.mg x=some (.ref d)/\tm X.K X.w.params d aN)(hb:JE X b f)(he:JE X e g)(hg:Gl X x:=by rfl)(RA:(x == ("__debug__" : Str))=false:=by decide)(hs:uw b:=by intro _ _;rfl)
  (M:attributeBase (.Subscript (.Name x p) b pos) "index" X.env (eval (.Subscript (.Name x p) b pos) X.env)=eval (.Subscript (.Name x p) b pos) X.env:=by rfl)
  (U:((backTo cx (starEach [e] X.env)).all (λx=>!x.1) && (backToKw cx (keywordEach [] X.env)).all (λx=>x.1.isSome)
   && decide ([e].length+([]:List Keyword).length+(if([]:List Keyword).isEmpty then 0 else 1)<30))=true:=by rfl)
  (O:(di.endLine == cx.line)=true:=by rfl) (Kp:starEach [e] X.env=[(false,eval e X.env)]:=by rfl):
  JE X (.Call (.Attribute (.Subscript (.Name x p) b pos) "index" di) [e] [] cx) (f2 (oG aN) f g):=by
 obtain⟨d,hm,cd⟩:=h;have ix:Gx X (λx y H Q=>∃z ds,x=.ref d/\y=.str z/\aN.lookup z=some (.tup ds)/\∀a its n oA,X.K.lookup a=some ⟨.type "tuple",none,.seq its n,oA⟩->j6 its.toList ds=true->Q (.ref a) H):=by
  intro value slice ae s σ H x y v u Q I rx ry q hs;obtain⟨z,ds,rfl,rfl,el,q⟩:=q;cases rx
  obtain⟨t,rfl⟩:=ry;obtain⟨es,n,l,r,sm⟩:=cd;have hM:=PySem.W.mapOf_K (prog:=X.prog) (w:=X.w) I.kIn l r.lit;obtain⟨en,a,its,n',oA,e1,e2,e3,e4⟩:=r.findT z el;have ff:findBy Value.isStrOf es z=some (.ref a):=by
   unfold findBy;obtain⟨es⟩:=es;rw[List.find?_toArray,e1,←e2];rfl
  exact tail_any hM.typeIs slot_dict_getitem.lookup (wpAny_getItem_of (strKind_is X.prog X.w z t) hM ff ⟨.ref a,H,I.tok _,rfl,q a _ _ _ e3 e4⟩) hs
 refine PE.to (A9 (T:="tuple") PySem.F.plainAttrs_tuple PySem.F.slot_tuple_index PySem.F.type_tuple_index EE (J8 ix (A2 (v:=.ref d) hg hm rfl RA) hb hs) (gN he jy Kp) M U O Kp rfl) λσ H Q q=>?_;obtain⟨B,ρ,d',bb,sB,r,G,q⟩:=q;obtain⟨x1,ex,G⟩:=oX G;obtain⟨y1,ey,G⟩:=oX G;obtain⟨xd,xb⟩:=x1;obtain⟨yd,yb⟩:=y1;cases xd with
 |str z=>
  cases yd with
  |str y=>
   refine⟨B,ρ,_,xb,sB,r,ex,λv H1 N1 xt i1 _=>?_⟩;cases i1
   simp only[oG]at G;split at G
   ·rename_i ds el;obtain⟨zs,ez,G⟩:=oX G;split at G
    ·rename_i hk;cases G
     refine⟨z,ds,rfl,rfl,el,λa its n oA l fl=>⟨.inr (.inl ⟨rfl,_,l,rfl,rfl⟩),N1,ρ,_,yb,xt.nh,r.mono xt.bn,ey,λv2 H2 N2 OX i2 _=>?_⟩⟩;cases i2
     obtain⟨vs,rv,iv⟩:=j7 (K:=X.K) fl;exact⟨a,_,its,n,zs,y,rfl,rfl,l,rfl,rfl,jX rv (iv N2) ez,hk,(q.into (xt.trans OX)).one OX.nh (.int _)⟩
    ·cases G
   ·cases G
  |_=>simp[oG]at G
 |_=>simp[oG]at G
end
open PySem.W (tabIn tabObj CodeHd kla_fn kla_obj kla_eval kla_makeFunction kla_makeFunctionHit kla_callFunE kla_codeExpr envX)
def Op (K:Frag)(c P:Addr):Prop:=∃o vs M U G tg T O tt,K.lookup c=some o/\o.cls=.type "code"/\o.data=.fields vs/\vs[11]? = some (.ref P)/\vs.getD 11 .none=.ref P/\vs.getD 18 .none=.str M U /\
 vs.getD 7 .none=.int G tg/\vs.getD 9 .none=.bool T/\vs.getD 10 .none=.int O tt/\c≠P
def zW (K:Frag)(x:Str):Prop:=∃c P,tabIn K x=some (c,P)/\Op K c P
def EF (H:Hp)(f:Addr)(q:Str)(params:Arguments)(G:Expr)(scope:Scope)(cl:List (Str×Addr)):Prop :=
 ∃pm c M u oc O vs t,H f=some (.frz (kla_obj "<lambda>" q params G scope cl pm c M) u)/\H c=some (.frz oc O)/\oc.data=.fields vs/\vs[1]? = some (.str q t)
def EF.mono (h:EF H f q params body scope cl)(e:bc H H'):EF H' f q params body scope cl :=
 let ⟨pm,c,G,u,oc,M,vs,t,h1,h2,h3,h4⟩:=h;⟨pm,c,G,u,oc,M,vs,t,e _ _ h1,e _ _ h2,h3,h4⟩
def lam_mk {K:Frag}{x:Str}{f c P:Addr}{oc:Value}{od VX:Option Addr}{oA T:Array (Option Value)}{fd:FuncData}{vs:AV}{M:Str}{tf tg tt:Tok}{G O:Int}{U:Bool}(e1:nsIn K mainGlobals x=some (some (.ref f)))(e2:K.lookup f=some ⟨oc,od,.func fd,oA⟩)
  (e3:fd.code=.ref c) (e4:K.lookup c=some ⟨.type "code",VX,.fields vs,T⟩) (e5:vs[11]? = some (.ref P)) (e6:vs.getD 11 .none=.ref P) (e7:vs.getD 18 .none=.str M tf) (e8:vs.getD 7 .none=.int G tg) (e9:vs.getD 9 .none=.bool U) (VY:vs.getD 10 .none=.int O tt) (T8:(c == P)=false):zW K x :=
 ⟨c,P,tab_yes e1 e2 e3 e4 e5,_,vs,M,tf,G,tg,U,O,tt,e4,rfl,rfl,e5,e6,e7,e8,e9,VY,λz=>by rw[z]at T8;simp at T8⟩
def zX (l:LU)(h:TriplesOk l)(e:codeAmong pos (l++[rawInt a,rawInt b,c])=some cv):codeAmong pos l=some cv∨cv=c:=by
 fun_induction TriplesOk l with
 |case1=>
  simp only[nil_append,rawInt,codeAmong]at e;split at e
  ·cases e;exact .inr rfl
  ·cases e
 |case2 M t b' u x aE G=>
  simp only[cons_append,codeAmong]at e ⊢;split at e
  ·rename_i hc;rw[if_pos hc];exact .inl e
  ·rename_i hc;rw[if_neg hc];exact G h e
 |case3 l h1 h2=>exact h.elim
section
variable {X:Cx}{ae:AO}{σ:St}{H:Hp}{s:Shared}
def EG 
  (hx:x∈md) (L:zW X.K x) (hc:∀c P,tabIn X.K x=some (c,P)->X.env.code=.ref c) (hq:X.env.qual ++ "<lambda>" = pB x) (RB:defaultsOf params X.env=([],[])) (Kn:closureFor scope X.env=pure cl)
  (I:Inv X ae σ H s) (tb:Tb X.K H) (k:∀f H' s',Inv X ae σ H' s'->bc H H'->EF H' f (pB x) params body scope cl->Q (.ref f) s'):
  wq X (eval (.Lambda params body scope pos) X.env) Q E s:=by
 refine kla_eval RB ?_;rw[hq];obtain⟨c,P,ht,o,vs,RC,tf,Pf,tg,VZ,RD,tt,lk,ck⟩:=L;have M:=hc c P ht;have hP:=tb x hx c P ht;obtain⟨ps,e,tr,co⟩:=I.hok P _ hP;have C:CodeHd s.heap c P:=⟨o,vs,RC,tf,Pf,tg,VZ,RD,tt,I.kIn c o lk,ck⟩;have hg:s.heap.Ns mainGlobals X.mg:=I.mod.glob.keeps I.bk;have nP:∀b,H b=none->b≠P:=λb n z=>by rw[z,hP]at n;cases n
 have Wa:mainGlobals≠P:=by
  obtain⟨og,_,_,eg,_⟩:=I.mod.glob;exact nP _ (I.bs _ _ eg).2
 have hb:s.heap.BuiltinsAt X.mg P:=by
  obtain⟨bm,ob,b1,b2,b3,b4,b5,b6⟩:=I.mod.bmain;refine⟨bm,ob,b1,b2,λz=>?_,nP _ (I.bs _ _ b3).2,I.bk _ _ b3,b4,b5,b6⟩;obtain⟨og,es,ep,eg,dg,_⟩:=I.mod.glob;rw[z,eg]at b3;cases b3;rw[dg]at b6;cases b6
 cases hf:codeAmong pos ps.toList with
 |some cv=>
  obtain⟨G,oc,u,ws,t,rfl,hH,hd,hv⟩:=co pos cv hf;refine kla_makeFunctionHit (mg:=X.mg) Kn I.ok.glob hg M C e tr hf hb λO h' tk hk hsz=>?_;have hn:H h'.objs.size=none:=I.hok.fresh hsz;have T:bc H (upd H h'.objs.size (.frz (kla_obj "<lambda>" (pB x) params body scope cl ((X.mg "__name__").getD .none) G O) (.own h'.objs.size))):=λb u q=>by rw[aI (bf q hn)];exact q
  refine k _ _ _ (I.laid (t':=tk) (λb u q=>vZ _ (hk b u q)) hsz (show bT X.prog X.w _ _ _ (.frz _ (.own h'.objs.size))from ⟨vY _ rfl,_,vY _ rfl⟩)) T ?_;exact⟨_,G,O,_,oc,u,ws,t,aC,T _ _ hH,hd,hv⟩
 |none=>
  refine kla_makeFunction (mg:=X.mg) Kn I.ok.glob hg M C e tr hf Wa hb λG O h' tk hx' hge zq hrec RE=>?_;obtain⟨c2,oc,ws,t,e2,Jl,hd,hv⟩:=hrec;cases e2
  have Pg:H G=none:=I.hok.fresh hge;have hsz:s.heap.objs.size<=h'.objs.size:=vR hge (le_of_lt zq);have Wb:H h'.objs.size=none:=I.hok.fresh hsz;have Wc:G≠h'.objs.size:=vS zq;let fo:Obj:=kla_obj "<lambda>" (pB x) params body scope cl ((X.mg "__name__").getD .none) G O;let H1:Hp:=upd (upd H G (.frz oc (.own G))) h'.objs.size (.frz fo (.own h'.objs.size));have T:bc H H1:=λb u q=>by
   show upd _ _ _ b=_;rw[aI (bf q Wb),aI (bf q Pg)];exact q
  have RF:H1 G=some (.frz oc (.own G)):=by show upd _ _ _ G=_;rw[aI Wc,aC]
  have keep:∀b u,b≠P->s.heap.get? b=some u->(h'.push fo).get? b=some u:=λb u n q=>vZ _ (hx' b u n q);have lt:∀b u,s.heap.get? b=some u->b≠G/\b≠h'.objs.size:=λb u q=>⟨vS (vQ (vX q) hge),vS (vQ (vX q) hsz)⟩;have U:(h'.push fo).get? P=some (tabObj (ps++#[rawInt pos.line,rawInt pos.col,.ref G])):=vZ _ RE;refine k _ H1 _ (I.un (t':=tk) (h':=h'.push fo) ⟨λb u q n _ _=>keep b u (nP b n) q,λb u q n _ _=>⟨u.slots,keep b u (nP b n) q⟩,λb u q n _=>?_,λb u q _=>?_,λb xs q=>T _ _ q,λb ob u q=>T _ _ q,λb u q=>T _ _ q⟩ λb u q=>?_) T ⟨_,G,O,_,oc,_,ws,t,aC,RF,hd,hv⟩
  ·show upd _ _ _ b=_;rw[aI (lt b u q).2,aI (lt b u q).1];exact n
  ·by_cases z:b=P
   ·subst z;exact⟨_,U⟩
   ·exact⟨u,keep b u z q⟩
  ·by_cases z1:b=h'.objs.size
   ·subst z1;have q':some (HO.frz fo (.own h'.objs.size))=some u:=by rw[←q];exact aC.symm
    cases q'
    exact⟨vY _ rfl,_,vY _ rfl⟩
   ·by_cases z2:b=G
    ·subst z2;rw[RF]at q;cases q;exact⟨vZ _ Jl,_,vZ _ Jl⟩
    ·have q':H b=some u:=by
      have:H1 b=H b:=by show upd _ _ _ b=_;rw[aI z1,aI z2]
      rw[←this];exact q
     by_cases z3:b=P
     ·subst z3;rw[hP]at q';cases q';refine⟨_,U,?_,λGo cv' ea=>?_⟩
      ·rw[Array.toList_append];exact TriplesOk_snoc _ _ _ _ tr
      ·rw[Array.toList_append]at ea;rcases zX _ tr ea with ea|rfl
       ·obtain⟨c3,Wd,u3,We,t3,y1,y2,y3⟩:=co Go cv' ea;exact⟨c3,Wd,u3,We,t3,y1,T _ _ y2,y3⟩
       ·exact⟨G,oc,_,ws,t,rfl,RF,hd,hv⟩
     ·refine(I.hok b u q').stay (λd v RG r=>keep d v ?_ r) (λd r=>T _ _ r) (λd xs r=>T _ _ r) λd ob v r=>T _ _ r;rcases RG with rfl|r
      ·exact z3
      ·intro z;rw[z,hP]at r;cases r
end
section
variable {P:Program}{w:World}{K:Frag}{mg:SV}{base:Heap}
def dj.fnL {x:Str}{st:Stmt}{N ps:LS}{k:Nat}{g:FS}{h:Heap}(F:dj K x st)(X:K.In h)(G:h.Ns mainGlobals mg)(S:FnScope N ps (aT st))
  (O:∀(kV doc pm:Value)(an:Option Addr)(eP ct:Value)(us:LU),us.length=ps.length->bindArgs (fnOf x x (gq st) (cK st) (aT st) .none kV doc pm an eP ct) ⟨us,[]⟩=pure (ps.zip us))
  (hb:∀(f:Addr)(eP:Value)(A:Around)(outer:List PySem.Env)(s:Shared)(H:Hp)(E:XK),(∀c P,tabIn K x=some (c,P)->eP=.ref c)->fg k (A.deeper (envOfC x (aT st) s.heap.objs.size f eP))->uE (oC zi P w K mg base N x (aT st) f eP A outer s H E).nox (cK st) g):
  Fn P w K mg base (k+1) x (aL g ps.length (N.length - ps.length)):=by
 obtain⟨f,fd,T,a⟩:=F;have F2:=T;obtain⟨oc,od,kV,doc,pm,an,eP,ct,oA,rfl,lk,U⟩:=F2.ex;have hc:∀c P,tabIn K x=some (c,P)->eP=.ref c:=λc P e=>by
  unfold tabIn at e;simp only[a,lk]at e;split at e
  ·rename_i c' _;split at e
   ·split at e
    ·cases e;rfl
    ·cases e
   ·cases e
  ·cases e
 have len:∀vs H Q E,Hr K (aL g ps.length (N.length - ps.length)) vs H Q E->vs.length=ps.length:=λvs H Q E h=>by
  obtain⟨B,ds,d,b,sB,i,e,q⟩:=h;unfold aL at e;split at e
  ·rename_i hl;rw[i.length];exact hl
  ·cases e
 refine⟨f,_,ps,J7 lk U S len λA outer s H vs Q E hr h=>⟨_,sy.nox (hb f eP A outer s H E hc hr),?_⟩,mg_of X G a,T.kp,T.binds O⟩;have M:=len vs H Q E h;obtain⟨B,ds,d,b,sB,i,e,q⟩:=h;unfold aL at e;rw[if_pos (by rw[←i.length];exact M)]at e;have s0:=xn (N:=N) sB.1 sB.2 i;rw[M]at s0;split at e
 ·rename_i d' b' eg;cases e
  exact⟨B,H,_,_,⟨B,s0⟩,eg,λv H' N' x' i' f'=>q v H' N' x' i' f'⟩
 ·rename_i ρ' eg;cases e
  exact⟨B,H,_,_,⟨B,s0⟩,eg,λσ' H' ⟨N',s'⟩=>q .non H' N' s'.ext .non (by simp)⟩
 ·cases e
end
inductive ly (X:Cx)(N':List Str)(scope:Scope)(cl:List (Str×Addr)):Nat->List Nat->Prop where
 |nil {j:Nat}(h:N'.length=j):ly X N' scope cl j []
 |cons {j i:Nat}{r:List Nat}{x:Str}(h1:N'[j]? = some x) (h2:X.N[i]? = some x) (h3:X.env.kindOf x=some .cell∨X.env.kindOf x=some .free)
   (h4:scope.names.lookup x=some .free) (h5:cl.lookup x=X.env.cells.lookup x) (t:ly X N' scope cl (j+1) r):ly X N' scope cl j (i::r)
theorem ly.len:∀ {j:Nat}{cap:LN},ly X N' scope cl j cap->N'.length=j+cap.length
 |_,_,.nil h=>by rw[h];rfl
 |j,i::r,.cons _ _ _ _ _ t=>by rw[t.len,vE];omega
theorem ly.get:∀ {j:Nat}{cap:LN}{k i:Nat},ly X N' scope cl j cap->cap[k]? = some i->∃x,N'[j+k]? = some x/\X.N[i]? = some x/\(X.env.kindOf x=some .cell∨X.env.kindOf x=some .free) /\
  scope.names.lookup x=some .free/\cl.lookup x=X.env.cells.lookup x
 |_,_,_,_,.nil _,e=>by simp at e
 |j,_,0,_,.cons h1 h2 h3 h4 h5 _,e=>by simp at e;subst e;exact⟨_,h1,h2,h3,h4,h5⟩
 |j,_,k+1,i,.cons _ _ _ _ _ t,e=>by
  obtain⟨x,q,r⟩:=t.get (k:=k) (i:=i) (by simpa using e);exact⟨x,by rw[show j+(k+1)=j+1+k by omega];exact q,r⟩
noncomputable abbrev ya (X:Cx)(N':LS)(scope:Scope)(cl:List (Str×Addr))(q:Str)(A:Around)(f c:Addr)(s:Shared)(H:Hp):Cx :=
 { X with A:=A.deeper (envX q scope s.heap.objs.size f (.ref c) cl),N:=N',s₀:=s,H₀:=H,env:=envX q scope s.heap.objs.size f (.ref c) cl,outer:=X.stack,stack:=envX q scope s.heap.objs.size f (.ref c) cl::X.stack,ex:=[],fn:=λ_=>false,calm:=true,pn:=[],xe:=λ_ _=>False }
structure LamSc (X:Cx)(scope:Scope)(cl:List (Str×Addr))(y:Str):Prop where
 clos:closureFor scope X.env=pure cl
 nocell:∀z∈scope.names,z.2≠.cell
 kind:scope.kind=.function
 co:scope.isCoroutine=false
 gen:scope.isGenerator=false
 par:scope.names.lookup y=some .local
 sub:∀x c,cl.lookup x=some c->X.env.cells.lookup x=some c
 has:∀x,scope.names.lookup x=some .free->∃c,cl.lookup x=some c
def Be (h1:∀z∈scope.names,z.2≠.cell)(h2:scope.kind=.function)(h3:scope.isCoroutine=false)(G:scope.isGenerator=false)(hp:scope.names.lookup y=some .local)
  (M:(scope.names.all λz=>!(z.2 == NameKind.free) || (X.env.cells.lookup z.1).isSome)=true):LamSc X scope (dM scope.names X.env.cells []) y:=by
 have h4:∀z∈scope.names,z.2=.free->(X.env.cells.lookup z.1).isSome=true:=λz hz e=>by
  have:=uR M z hz;rw[e]at this;simpa using this
 exact⟨sU scope.names [] h4,h1,h2,h3,G,hp,λx c e=>mf scope.names [] (λy d q=>by cases q) e,λx h=>by
  have:=mh (x:=x) scope.names [] (fZ h) (h4 _ (fZ h) rfl);exact uU this⟩
section
variable {X:Cx}{ae:AO}{σ:St}{H:Hp}{s:Shared}{A:Around}{N':LS}{scope:Scope}{cl:List (Str×Addr)}{q y:Str}{cap:LN}
def HL (S:LamSc X scope cl y)(N0:N'[0]? = some y)(cp:ly X N' scope cl 1 cap)(I:Inv X ae σ H s)(hA:A.frames=some X.stack)(hh:A.handled=none)(r:aY v u)
  (MP:h₁.Ns s.heap.objs.size (λx=>[(y,u)].reverse.lookup x)) (hk:∀b o,s.heap.get? b=some o->h₁.get? b=some o):
  Inv (ya X N' scope cl q A f c s H) [] (some v::rY 0 cap σ) H { s with heap:=h₁,toks:=tk }:=by
 have M:∀b:Addr,b∉(ya X N' scope cl q A f c s H).ex:=λb z=>absurd (show b∈([]:List Addr)from z) (by simp);refine⟨⟨I.ok.mod,S.kind,rfl,rfl,vT _,λx z d U e2=>I.ok.inj x z d (S.sub _ _ U) (S.sub _ _ e2),λx hx=>?_,(λx d e=>by cases e),λ_=>hh,Around.frames_deeper hA,.inr ⟨rfl,rfl⟩,λb z=>absurd z (M b),I.bs,vR I.ok.bsz I.sz,λb _ _=>M b,λb z=>absurd z (M b),I.stack,I.stkFree⟩,
  rfl,I.bare,Un.kept hk,⟨_,MP,λi x v' U e2 e3=>?_⟩,λx d e=>?_,I.hok.fresh (vT _),λx d e=>I.freeC x d (S.sub _ _ e),λp hp=>absurd (show p∈([]:AO)from hp) (by simp),I.hok.kept hk,?_⟩
 ·have hx':scope.names.lookup x=some .cell∨scope.names.lookup x=some .free:=hx;rcases hx' with hx'|hx'
  ·exact absurd rfl (S.nocell _ (fZ hx'))
  ·exact S.has x hx'
 ·cases i with
  |zero=>
   have G:N'[0]? = some x:=U;rw[N0]at G;cases G;have O:some v=some v':=by simpa using e2
   cases O
   exact⟨u,r,.inl ⟨S.par,by simp⟩⟩
  |succ k=>
   have O:(rY 0 cap σ)[k]? = some (some v'):=by simpa using e2
   obtain⟨k',i',Ko,g1,T⟩:=uG O;have:k=k':=by omega
   subst this;obtain⟨x',n1,n2,n3,n4,n5⟩:=cp.get g1;have:x'=x:=by
    have G:N'[k+1]? = some x:=U;rw[show 1+k=k+1 by omega]at n1;rw[n1]at G;exact vK G
   subst this;have Wf:σ[i']? = some (some v'):=by
    cases z:σ[i']? with
    |none=>rw[z]at T;cases T
    |some w=>rw[z]at T;cases w with
     |none=>cases T
     |some w=>cases T;rfl
   obtain⟨m,_,hl⟩:=I.loc;obtain⟨u',ru,lk⟩:=hl i' x' v' n2 Wf (by
    rcases n3 with n3|n3
    ·exact .inr (.inl n3)
    ·exact .inr (.inr n3))
   refine⟨u',ru,.inr ⟨.inr n4,?_⟩⟩;rcases lk with⟨l1,_⟩|⟨_,d,l2,l3⟩
   ·rcases n3 with n3|n3<;>(rw[l1]at n3;cases n3)
   ·obtain⟨ob,ho,hd⟩:=l3;exact⟨d,by show cl.lookup x'=_;rw[n5];exact l2,ob,hk _ _ ho,hd⟩
 ·obtain⟨w,ob,ho,hd⟩:=I.cell x d (S.sub _ _ e);exact⟨w,ob,hk _ _ ho,hd⟩
 ·have:=cp.len;show(some v::rY 0 cap σ).length=N'.length;unfold rY;rw[this];simp;omega
def HM (S:LamSc X scope cl y)(N0:N'[0]? = some y)(cp:ly X N' scope cl 1 cap)(I:Inv X ae σ H s)
  (hA:A.frames=some X.stack) (hh:A.handled=none) (G:A.depth<recursionLimit) (lv:EF H f q params body scope cl)
  (M:∀pm c T u,bindArgs (kla_fn "<lambda>" q params body scope cl pm (.ref c) T) ⟨[u],[]⟩=pure [(y,u)])
  (hb:∀(f c:Addr)(s:Shared)(H:Hp),JE (ya X N' scope cl q A f c s H) body fb)
  (rep:fR X.K B σ ρ) (sB:bc B H) (r:aY v u) (i:Is X.K B v d) (e:fb (some (d,false)::dN 0 cap ρ)=some (d',b')) (qf:Fin X.K B H d' b' Q):
  wpAny (model X.prog X.w) A (call (.ref f) [u]) (EP X ae σ Q) (λ_ _=>False) s:=by
 obtain⟨pm,c,T,uf,oc,u',ws,t,hf,hc,hd,hv⟩:=lv;have ho:=(I.hok f _ hf).1;have Jl:=(I.hok c _ hc).1;refine wpAny_call (codeAny_mono (R:=λr s'=>CR zi X.stack X.prog X.w H s Q (λ_ _ _=>False) r s') ?_ λr s' hq=>?_)
 ·refine kla_callFunE G ho rfl S.co S.gen rfl ⟨c,oc,ws,t,rfl,Jl,hd,hv⟩ ?_;rw[M];refine wY (wpAny_newFunctionEnv S.nocell (λz hz=>by rw[uT hz];exact S.par) (λU MP hsb=>⟨I.nolimit.fresh _ hsb,?_⟩) S.kind);have O:∀b o,s.heap.get? b=some o->U.get? b=some o:=λb o e=>hsb.extBut b o (vS (vX e)) (vZ _ e);have J:=HL (f:=f) (c:=c) (q:=q) (tk:=s.toks+1) S N0 cp I hA hh r MP O;refine kla_codeExpr (wpAny_mono (hb f c s H [] _ _ H Q J ⟨B,_,d',b',sB,⟨rep.tb,λj e0 b0 z=>?_⟩,e,qf⟩) (λw s' hw=>?_) λ_ _ z=>z.elim)
  ·cases j with
   |zero=>
    have z':some (d,false)=some (e0,b0):=by simpa using z
    cases z'
    exact⟨v,rfl,i⟩
   |succ j=>
    obtain⟨w,h1,h2⟩:=(rep.caps (nT:=0) (cap:=cap)).at' j e0 b0 (by simpa using z);exact⟨w,by simpa using h1,h2⟩
  ·obtain⟨v',H',J',rv,qv⟩:=hw;exact⟨v',H',J'.os,J'.bare,J'.base,J'.hok,rv,qv⟩
 ·cases r with
  |error e=>exact False.elim hq
  |ok fl=>
   cases fl with
   |ret w=>exact I.after hq
   |next=>exact False.elim hq
   |brk=>exact False.elim hq
   |cont=>exact False.elim hq
end
end DL
namespace DL
open PySem PySem.Spec PySem.W PyProof.Rows L2
section
variable {X:Cx}{ae:AO}{σ:St}{H:Hp}{s:Shared}{h':Heap}{t':Nat}
def nz (I:Inv X ((p,o)::ae) σ H s):∀x c,X.env.cells.lookup x=some c->c≠p:=λx c e z=>by
 have G:=I.pin (p,o) (mY _ mX);obtain⟨v,ob,ho,hd⟩:=I.cell x c e;rw[z,G.1]at ho;cases ho;exact G.2.2.2.2 v hd
def jZ (I:Inv X (p::ae) σ H s):Inv X ae σ H s:=I.pins_of λq hq=>I.pin q (mY _ (mZ _ hq))
def hW (I:Inv X ((p,o)::ae) σ H s)(h0:X.s₀.heap.objs.size<=p)(hp:∀q∈X.pn++ae,q.1≠p)(k:∀b u,b≠p->s.heap.get? b=some u->h'.get? b=some u)(M:h'.get? p=some o')(O:∀v,o'.data≠.cell v):
  Inv X ((p,o')::ae) σ H { s with heap:=h',toks:=t' }:=by
 have G:=I.pin (p,o) (mY _ mX);have J:=(jZ I).turned (t':=t') k G.2.1 G.2.2.1 (.inr h0) (nz I) hp;refine J.pins_of λq hq=>?_;rcases vP hq with rfl|hq
 ·exact⟨M,G.2.1,G.2.2.1,G.2.2.2.1,O⟩
 ·exact J.pin q (mY _ hq)
def oP (I:Inv X ae σ H s)(k:∀b u,s.heap.get? b=some u->h'.get? b=some u)(hs:s.heap.objs.size<=p)(G:h'.get? p=some o)(M:∀v,o.data≠.cell v):Inv X ((p,o)::ae) σ H { s with heap:=h',toks:=t' }:=by
 have J:=I.kept (t':=t') k;refine J.pins_of λq hq=>?_;rcases vP hq with rfl|hq
 ·exact⟨G,I.hok.fresh hs,ne_of_gt (vQ I.lt hs),I.nofs hs,M⟩
 ·exact J.pin q (mY _ hq)
def HN (I:Inv X ((p,o)::ae) σ H s)(h0:X.s₀.heap.objs.size<=p)(hp:∀q∈X.pn++ae,q.1≠p)(k:∀b u,b≠p->s.heap.get? b=some u->h'.get? b=some u)(T:∃u,h'.get? p=some u)
  (new:bT X.prog X.w (upd H p ob) h' p ob):Inv X ae σ (upd H p ob) { s with heap:=h',toks:=t' }:=by
 have G:=I.pin (p,o) (mY _ mX);have hn:=G.2.1;have hn:H p=none:=hn;have cs:=nz I;refine(jZ I).step (g':=s.gens) (d':=s.drawn) (ch:=[p]) (λb hb=>?_) (λb u _ _ hc e _=>k b u (λz=>hc (by simp[z])) e) (λb u _ _ hc e _=>⟨u.slots,k b u (λz=>hc (by simp[z])) e⟩) (λb u hc _ n=>by rw[aI (λz=>hc (by simp[z]))];exact n)
  (λb u hc e=>⟨u,k b u (λz=>hc (by simp[z])) e⟩) (λb xs e=>by rw[aI (bf e hn)];exact e) (λb u w e=>by rw[aI (bf e hn)];exact e) (λb q e=>by rw[aI (bf e hn)];exact e) (λm hm=>?_) (λb u e=>?_) I.bare
 ·have z:b=p:=by simpa using hb
  subst z;exact⟨.inr h0,G.2.2.1,cs,hp⟩
 ·obtain⟨M,es,O,ho,r⟩:=hm;exact⟨M,es,O,k _ M (λz=>G.2.2.1 z.symm) ho,r⟩
 ·by_cases z:b=p
  ·subst z;rw[aC]at e;cases e;exact new
  ·rw[aI z]at e;refine(I.hok b u e).stay (λc v hc q=>k c v ?_ q) (λc q=>?_) (λc xs q=>?_) λc w xs q=>?_
   ·rcases hc with rfl|hc
    ·exact z
    ·exact bf hc hn
   ·rw[aI (bf q hn)];exact q
   ·rw[aI (bf q hn)];exact q
   ·rw[aI (bf q hn)];exact q
end
def Bf (X:Cx)(A:Around)(σ:St)(G:Value)(B M:Hp)(O:D->Option D):Prop :=
 ∀(ae:AO)(s:Shared)(H N:Hp)(v:V)(u:Value)(d d':D),Inv X ae σ H s->bc M H->bc B N->bc N H->Is X.K N v d->aY v u->O d=some d' ->
  wpAny (model X.prog X.w) A (call G [u]) (EP X ae σ λT H'=>∃N',Ext N N' H H'/\Is X.K N' T d') (λ_ _=>False) s
def JK (X:Cx)(A:Around)(e:Expr)(O:Env->D->Option D):Prop:=∀(ae:AO)(s:Shared)(σ:St)(H B:Hp)(ρ:Env)(Q:QV)(E:QV),Inv X ae σ H s->bc B H->fR X.K B σ ρ ->
 (∀M G s1,Inv X ae σ G s1->bc H G->Bf X A σ (.ref M) B G (O ρ)->Q (.ref M) s1)->wq X (eval e X.env) Q E s
section
variable {X:Cx}{A:Around}
@[simp] def pY (cap:LN)(G:FE):Env->D->Option D:=λρ d=>(G (some (d,false)::dN 0 cap ρ)).map (·.1)
def wc (hx:x∈md)(L:zW X.K x)(hc:∀c P,tabIn X.K x=some (c,P)->X.env.code=.ref c)(hq:X.env.qual ++ "<lambda>" = pB x)
  (M:defaultsOf params X.env=([],[])) (S:LamSc X scope (dM scope.names X.env.cells []) y) (N0:N'[0]? = some y) (cp:ly X N' scope (dM scope.names X.env.cells []) 1 cap) (hA:A.frames=X.A.frames) (hr:fg (k+1) A)
  (G:∀pm c O u,bindArgs (kla_fn "<lambda>" (pB x) params body scope (dM scope.names X.env.cells []) pm (.ref c) O) ⟨[u],[]⟩=pure [(y,u)])
  (hb:∀(f c:Addr)(s:Shared)(H:Hp),fg k (ya X N' scope (dM scope.names X.env.cells []) (pB x) A f c s H).A->JE (ya X N' scope (dM scope.names X.env.cells []) (pB x) A f c s H) body fb):JK X A (.Lambda params body scope pos) (pY cap fb):=by
 intro ae s σ H B ρ Q E I sB rep kk;refine EG hx L hc hq M S.clos I (rep.tb.mono sB) λf H1 s1 I1 sm lv=>kk f H1 s1 I1 sm ?_;intro T s' H' N v u d d' U m1 m2 m3 iv r e;simp only[pY]at e;obtain⟨⟨d2,b2⟩,e1,e2⟩:=oY e;cases e2
 exact HM S N0 cp U (hA.trans U.ok.frames) hr.hd hr.depth (lv.mono m1) G (λf c s H=>hb f c s H (hr.deeper _)) (rep.mono m2) m3 r iv e1 λv' H2 N2 x2 i2 _=>⟨N2,x2,i2⟩
@[simp] noncomputable def sg (g:LD->OB):Env->D->Option D:=λ_ d=>(g [d]).map (·.1)
def Bg (F:Fn X.prog X.w X.K X.mg X.base k x g)(hr:fg k A)(hA:A.frames=X.A.frames)(hg:Gl X x:=by rfl)(M:(x == ("__debug__" : Str))=false:=by decide):JK X A (.Name x p) (sg g):=by
 intro ae s σ H B ρ Q E I sB rep kk;obtain⟨ad,fd,ps,U,hm,hk,hb⟩:=F.ex;refine ur I hg hm ?_ M;refine kk ad H s I (.refl H) ?_;intro O s' H' N v u d d' T m1 m2 m3 iv r e;simp only[sg]at e;obtain⟨⟨d2,b2⟩,e1,e2⟩:=oY e;cases e2
 have sp:Hr X.K g [v] H' (λv' H2=>∃N',Ext N N' H' H2/\Is X.K N' v' d2) (λ_ _ _=>False):=⟨N,[d],d2,b2,⟨m3,rep.tb.mono m2⟩,.cons iv .nil,e1,λv' H2 N2 x2 i2 _=>⟨N2,x2,i2⟩⟩;have hl:[u].length=ps.length:=by have:=U.len _ _ _ _ sp;simpa using this
 have G:=T.env0;have bb:=hb s' [u] T.kIn (by simpa using hl);rw[uQ]at bb;refine wpAny_call (codeAny_mono (U.run A X.stack s' H' ⟨[u],[]⟩ [u] [v] _ (λ_ _ _=>False) hr ⟨hA.trans G.frames,G.mod,G.bs,G.bsz,G.funs,G.frf,G.hok,G.bare⟩ bb (.cons r .nil) sp) λr s' hq=>?_);cases r with
 |error e=>exact False.elim hq
 |ok fl=>
  cases fl with
  |ret w=>exact T.after hq
  |next=>exact False.elim hq
  |brk=>exact False.elim hq
  |cont=>exact False.elim hq
end
noncomputable def ji (f:D->Option D):LD->Option LD
 |[]=>some []
 |d::ds=>(f d).bind λx=>(ji f ds).map (x :: ·)
theorem kg:∀ {ds ks:LD},ji f ds=some ks->ks.length=ds.length
 |[],_,h=>by simp only[ji]at h;cases h;rfl
 |d::ds,_,h=>by
  simp only[ji]at h;obtain⟨a,h1,h⟩:=oX h;obtain⟨r,h2,h⟩:=oY h;subst h;simp[kg h2]
theorem pZ:∀ {ds ks:LD},ji f ds=some ks->∀ {i:Nat}{d:D},ds[i]? = some d->∃k,ks[i]? = some k/\f d=some k
 |[],_,h,i,d,e=>by simp at e
 |d::ds,_,h,0,e,q=>by
  simp only[ji]at h;obtain⟨a,h1,h⟩:=oX h;obtain⟨r,h2,h⟩:=oY h;subst h;simp at q;subst q;exact⟨a,by simp,h1⟩
 |d::ds,_,h,i+1,e,q=>by
  simp only[ji]at h;obtain⟨a,h1,h⟩:=oX h;obtain⟨r,h2,h⟩:=oY h;subst h;obtain⟨k,G,M⟩:=pZ h2 (i:=i) (d:=e) (by simpa using q);exact⟨k,by simpa using G,M⟩
structure KK (X:Cx)(A:Around)(kd:List D->Option (List (List At)))(ok:List (List At)->Bool):Prop where
 len:∀ {ds:List D}{ks:List (List At)},kd ds=some ks->ks.length=ds.length
 ask:∀ {ae:List (Addr×Obj)}{σ:St}{H:Hp}{s:Shared}(_:Inv X ae σ H s) {ys:List V}{ds:List D}{ks:List (List At)}{its:List Value},ba ys its->IsL X.K H ys ds->kd ds=some ks->ok ks=true->eJ ks=true ->
  (0<ks.length->∀ {E:Value->Shared->Prop}{Q:SortKind->Shared->Prop},Q (tuples' true) s->wpAny (model X.prog X.w) A (keyKind' its.toArray) Q E s) /\
  ∀(i j:Nat)(C:Bool->Shared->Prop)(s1:Shared),i<ks.length->j<ks.length->s1=s->(∀s',s'=s->C (pT (G1 ks) i j) s')->kas_ask X.prog X.w A (tuples' true) its i j C s1
def EH:KK X A dF fM:=⟨kP,λI _ _ _ _ r i e hf hc=>have hp:=oN I r i e;⟨λhn _ _ q=>EC hp hf hn q,HJ hc hp⟩⟩
section
variable {X:Cx}{ae:AO}{σ:St}{s:Shared}
theorem tI (r:aY x u):∀ {vs:LV}{us:LU},ba vs us->ba (vs++[x]) (us++[u])
 |_,_,.nil=>.cons r .nil
 |_,_,.cons h t=>.cons h (tI r t)
def dm:∀v,(Obj.mk c od (.seq its n) sl).data≠.cell v:=λv z=>by cases z
def zY 
  (I:Inv X ((a,seqObj "list" its.toArray n)::ae) σ H s) (h0:X.s₀.heap.objs.size<=a) (hp:∀q∈X.pn++ae,q.1≠a) (G3:Bf X A σ qv B H kf) (rv:ba vs its) (iv:IsL X.K B vs ds) (sB:bc B H)
  (M:KK X A kd ok) (em:ji kf ds=some jw) (ek:kd jw=some ks) (hc:eJ ks=true) (hf:ok ks=true) (Kq:its.length<64)
  (h:∀(p:Array Nat)(s':Shared)(H' N:Hp),oK its.length p->Up (G1 ks) p its.length->Inv X ae σ (upd H' a (.lst (p.toList.map λi=>vs.getD i .non))) s'->Ext B N H H'->H' a=none->P (.done (.ret .none)) s'):
  wpAny (model X.prog X.w) A (ksk_tree a qv false) P E s:=by
 have pa:=I.pin (a,seqObj "list" its.toArray n) (mY _ mX)
 have Mw:vs.length=its.length:=rv.length
 have MV:ds.length=vs.length:=iv.length.symm
 have Wg:jw.length=ds.length:=kg em
 have T9:ks.length=jw.length:=M.len ek
 have hz:its.length<=sizeLine:=by rw[sizeLine_eq];omega
 have XS:H a=none:=pa.2.1
 obtain⟨T,MU⟩:∃T,(s.heap.update a (Obj.mapSeq λ_=>(#[]:AV))).get? a=some (seqObj "list" #[] T):=⟨_,get?_update_seq pa.1 λ_=>#[]⟩
 have u1:=vW s.heap a (Obj.mapSeq λ_=>(#[]:AV))
 have I1:Inv X ((a,seqObj "list" #[] T)::ae) σ H { s with heap:=s.heap.update a (Obj.mapSeq λ_=>(#[]:AV)) }:=hW (t':=s.toks) I h0 hp (λb u n q=>(u1.2 b n).trans q) MU dm
 let h2:Heap:=(s.heap.update a (Obj.mapSeq λ_=>(#[]:AV))).push (seqObj "tuple" its.toArray 0)
 have I2:Inv X ((a,seqObj "list" #[] T)::ae) σ H { s with heap:=h2 }:=I1.kept (t':=s.toks) λb u q=>vZ _ q
 let kS:Addr:=h2.objs.size
 have I3:Inv X ((kS,seqObj "list" #[] 0)::(a,seqObj "list" #[] T)::ae) σ H { s with heap:=h2.push (seqObj "list" #[] 0) }:=oP (s:={ s with heap:=h2 }) (t':=s.toks) I2 (λb u q=>vZ _ q) (vT _) (vY _ rfl) dm
 have k0:X.s₀.heap.objs.size<=kS:=I2.sz
 have kp:∀q∈X.pn++((a,seqObj "list" #[] T)::ae),q.1≠kS:=λq hq=>vS (vX (I2.pin q hq).1)
 have XT:kS≠a:=λz=>kp (a,seqObj "list" #[] T) (mY _ mX) z.symm
 unfold ksk_tree
 refine wX (listItems_at pa.1 rfl ?_)
 refine wX (listUpdate_at pa.1 rfl ?_ (by simpa using hz) (uN _))
 refine wX (seqEpoch_at MU rfl ?_)
 refine wX (wpAny_newTuple ?_ (by show its.length<=sizeLine;exact hz))
 refine wX (wpAny_newList ?_ (uN _))
 refine wpAny_holding ?_
 show wpAny (model X.prog X.w) A (ksk_rest a qv false its.toArray T (.ref kS)) P E { s with heap:=h2.push (seqObj "list" #[] 0) }
 unfold ksk_rest
 refine wX (wpAny_rule ?_)
 rw[List.forIn_toArray]
 refine wX (ksk_fold (λi s'=>∃(H' N:Hp)(kA:AV)(e:Nat)(aN:LV),Inv X ((kS,seqObj "list" kA e)::(a,seqObj "list" #[] T)::ae) σ H' s'/\Ext B N H H'/\ba aN kA.toList/\IsL X.K N aN (jw.take i)) its 0 _
  ⟨H,B,#[],0,[],I3,.refl sB,.nil,by simpa using IsL.nil⟩ ?step ?done)
 case step=>
  rintro j u s' hu ⟨H',N,kA,e,aN,J,x1,rk,ik⟩
  simp only[Nat.zero_add]at ik ⊢
  have hj:j<its.length:=(vV hu).1
  obtain⟨d,hd⟩:∃d,ds[j]? = some d:=⟨_,vU (by omega)⟩
  obtain⟨v,hv,Ph⟩:=iv.get hd
  obtain⟨kd,Wh,RH⟩:=pZ em hd
  obtain⟨u',Pj,ru⟩:=rv.get hv
  rw[hu]at Pj;cases Pj
  have kl:kA.size=j:=by
   have z1:=rk.length
   have z2:=ik.length
   rw[length_take]at z2
   rw[vG]at z1
   exact z1.symm.trans (z2.trans (Nat.min_eq_left (by omega)))
  refine wX (wpAny_attempt (wpAny_mono (G3 _ s' H' N v u d kd J x1.hh x1.bn x1.nh (Ph.mono x1.bn) ru RH) (λw Pe hw=>?_) λ_ _ hF=>hF.elim))
  obtain⟨v',Wi,J',Wj,N',x2,i2⟩:=hw
  have pk:=J'.pin (kS,seqObj "list" kA e) (mY _ mX)
  obtain⟨c2,Kr⟩:∃c2,(Pe.heap.update kS (Obj.mapSeq (·.push w))).get? kS=some (seqObj "list" (kA.push w) c2):=⟨_,get?_update_seq pk.1 (·.push w)⟩
  have u2:=vW Pe.heap kS (Obj.mapSeq (·.push w))
  refine wX (listUpdate_at pk.1 rfl ?_ (by rw[sizeLine_eq];omega) (vR (le_of_eq (Array.size_push ..)) (by rw[sizeLine_eq];omega)))
  refine wY ⟨rfl,Wi,N',kA.push w,c2,aN++[v'],hW (t':=Pe.toks) J' k0 kp (λb q n z=>(u2.2 b n).trans z) Kr dm,x1.trans x2,?_,?_⟩
  ·rw[toList_push];exact tI Wj rk
  ·rw[take_add_one,Wh];exact(ik.mono x2.bn).append (.cons i2 .nil)
 case done=>
  rintro s' ⟨H',N,kA,e,aN,J,x1,rk,ik⟩
  have TB:IsL X.K N aN jw:=by
   have z:jw.take (0+its.length)=jw:=take_of_length_le (by omega)
   rw[z]at ik;exact ik
  have pk:=J.pin (kS,seqObj "list" kA e) (mY _ mX)
  have Wk:=J.pin (a,seqObj "list" #[] T) (mY _ (mZ _ mX))
  have Ra:H' a=none:=Wk.2.1
  have kz:kA.toList.length=its.length:=by rw[←rk.length,TB.length];omega
  have TC:kA.size=its.length:=by rw[←vG];exact kz
  refine wX (listItems_at pk.1 rfl ?_)
  have TD:=M.ask J rk (TB.mono x1.nh) ek hf hc
  -- the end of the sort,for a permutation p
  have Pk:∀(st:SortSt)(p:Array Nat),arrOf st=p.map (kas_item (kA.toList.toArray.zip its.toArray))->failedOf st=none->oK its.length p->Up (G1 ks) p its.length ->
    wpAny (model X.prog X.w) A (ksk_tail a false T (.ref kS) st) P E s':=λst p ea ef ap up=>by
   have eo:(arrOf st).map (·.2)=List.toArray (p.toList.map λi=>its.getD i Value.none):=kat_snds kz ea
   have M0:∀i∈p.toList,i<vs.length:=λi hi=>by
    have:=mem_range.mp (ap.perm.mem_iff.mp hi)
    omega
   obtain⟨c3,Wl⟩:∃c3,(s'.heap.update kS (Obj.mapSeq λ_=>(#[]:AV))).get? kS=some (seqObj "list" #[] c3):=⟨_,get?_update_seq pk.1 λ_=>#[]⟩
   have u3:=vW s'.heap kS (Obj.mapSeq λ_=>(#[]:AV))
   have J3:=jZ (hW (t':=s'.toks) J k0 kp (λb q n z=>(u3.2 b n).trans z) Wl dm)
   have RI:=J3.pin (a,seqObj "list" #[] T) (mY _ mX)
   obtain⟨c4,TF⟩:∃c4,((s'.heap.update kS (Obj.mapSeq λ_=>(#[]:AV))).update a (Obj.mapSeq λ_=>(arrOf st).map (·.2))).get? a=some (seqObj "list" ((arrOf st).map (·.2)) c4):=⟨_,get?_update_seq RI.1 λ_=>(arrOf st).map (·.2)⟩
   have u4:=vW (s'.heap.update kS (Obj.mapSeq λ_=>(#[]:AV))) a (Obj.mapSeq λ_=>(arrOf st).map (·.2))
   have so:((arrOf st).map (·.2)).size=its.length:=by rw[eo];simp only[vH,vI,vG,ap.size]
   unfold ksk_tail
   try dsimp only
   refine wX (listUpdate_at pk.1 rfl ?_ (by rw[TC,sizeLine_eq];omega) (uN _))
   refine wX (wpAny_letGo ?_)
   refine wX (seqEpoch_at RI.1 rfl ?_)
   refine wX (listUpdate_at RI.1 rfl ?_ (uN _) (by simp only[uV,if_false];rw[so,sizeLine_eq];omega))
   rw[ef]
   simp only[bne_self_eq_false,uV,if_false]
   refine wY (h p _ H' N ap up (HN (s:={ s' with heap:=s'.heap.update kS (Obj.mapSeq λ_=>(#[]:AV)) }) (t':=s'.toks) J3 h0 hp (λb q n z=>(u4.2 b n).trans z) ⟨_,TF⟩ ?_) x1 Ra)
   refine⟨by rw[vI,vG,ap.size];exact hz,p.toList.map λi=>its.getD i Value.none,c4,tH rv p.toList M0,?_⟩
   rw[←eo];exact TF
  unfold ksk_end
  try dsimp only
  simp only[uV,if_false]
  have Wm:kA=kA.toList.toArray:=by simp
  by_cases O:its.toArray.size<2
  ·rw[if_pos O,if_pos O]
   refine wX (wY ?_)
   rw[StateT.run_pure]
   refine wX (wY ?_)
   have TH:its.length<2:=by simpa using O
   refine Pk _ (List.toArray (List.range its.length)) ?_ rfl ⟨by simp,by simp⟩ ?_
   ·show kA.zip its.toArray=_
    have:=kas_range (kA.toList.toArray.zip its.toArray)
    rw[show(kA.toList.toArray.zip its.toArray).size=its.length by simp[TC]]at this
    rw[this]
   ·intro i j hij hj
    have:i=j:=by omega
    subst this;exact le_refl _
  ·rw[if_neg O,if_neg O]
   have RJ:2<=its.length:=by simp at O;omega
   rw[Wm]
   refine wX (TD.1 (by omega) ?_)
   obtain⟨p,r1,r2,r3⟩:=EA (n:=its.length) (rk:=G1 ks) (by omega)
   refine wX (wpAny_mono (kat_run (E:=E) (ks:=kA.toList) (vs:=its) (κ:=tuples' true) (s:=s') (Q:=λU s2=>s2=s'/\arrOf U=p.map (kas_item (kA.toList.toArray.zip its.toArray))/\failedOf U=none)
    (G:=λp' s2=>p'=p/\s2=s') kz RJ Kq (λp' U s2 _ e2 e3 e4=>by
     obtain⟨rfl,rfl⟩:=e4
     exact⟨rfl,e2,e3⟩) (Run.wp (λs2=>s2=s') (λi j C s2 hi hj e hC=>TD.2 i j C s2 (by omega) (by omega) e hC) r1 rfl λs2 e=>⟨rfl,e⟩)) (λr s2 hr=>?_) λ_ _ z=>z)
   obtain⟨⟨⟩,U⟩:=r
   obtain⟨rfl,e2,e3⟩:=hr
   exact Pk U p e2 e3 r2 r3
end
theorem yc {α G:Type}{f:α->G}:∀ {l:List α},(l.map f).Nodup->l.Nodup
 |[],_=>nodup_nil
 |a::l,h=>by
  rw[uY,nodup_cons]at h;exact nodup_cons.mpr ⟨λz=>h.1 (uS ⟨a,z,rfl⟩),yc h.2⟩
def jj (ks:List (List At))(ds:LD):LD:=(eI (λp:List At×D=>cQ p.1) (ks.zip ds)).map (·.2)
def EI {α T:Type}(d:α)(e:T):∀ {M:List α}{G:List T},M.length=G.length->(List.range G.length).map (λi=>(M.getD i d,G.getD i e))=M.zip G:=λ{M G} h=>by
 apply ext_getElem?;intro i;by_cases hi:i<G.length
 ·have O:i<M.length:=by omega
  have:=(getElem?_zip_eq_some (z:=(M[i],G[i]))).mpr ⟨vU O,vU hi⟩;rw[this];simp[hi,O]
 ·simp[hi,h]
def HP {α O:Type}{G:List α}{M:List O}(nd:G.Nodup){a:α}{b c:O}(h1:(a,b)∈G.zip M)(h2:(a,c)∈G.zip M):b=c:=by
 obtain⟨i,hi⟩:=mem_iff_getElem?.mp h1;obtain⟨j,hj⟩:=mem_iff_getElem?.mp h2;obtain⟨U,i2⟩:=getElem?_zip_eq_some.mp hi;obtain⟨j1,T⟩:=getElem?_zip_eq_some.mp hj;obtain⟨li,ei⟩:=vV U;obtain⟨lj,ej⟩:=vV j1;have:i=j:=(List.getElem_inj nd).mp (ei.trans ej.symm);subst this;rw[i2]at T;exact vK T
def zZ {ds:LD}{ks:List (List At)}{p:Array Nat}(hl:ks.length=ds.length)(hc:eJ ks=true)(nd:ks.Nodup)(G:oK ds.length p)(U:Up (G1 ks) p ds.length):p.toList.map (λi=>ds.getD i .non)=jj ks ds:=by
 unfold jj;have e:p.toList.map (λi=>(ks.getD i [],ds.getD i .non))=eI (λp:List At×D=>cQ p.1) (ks.zip ds):=by
  apply jY
  ·intro x hx y hy e;have mx:=(of_mem_zip hx).1;have my:=(of_mem_zip hy).1;have:=ny hc mx my e;obtain⟨k1,d1⟩:=x;obtain⟨k2,d2⟩:=y;have z:k1=k2:=this;subst z;rw[HP nd hx hy]
  ·have:=G.perm.map (λi=>(ks.getD i [],ds.getD i D.non));rw[EI [] D.non hl]at this;exact this
  ·rw[List.pairwise_iff_getElem];intro i j hi hj M;have hsz:=G.size;have O:i<p.size:=by simpa using hi
   have T:j<p.size:=by simpa using hj
   have:=U i j (le_of_lt M) (by omega);unfold cy G1 at this;have gi:p.getD i 0=p[i]:=by rw[getD_eq_getD_getElem?,getElem?_eq_getElem O];rfl
   have gj:p.getD j 0=p[j]:=by rw[getD_eq_getD_getElem?,getElem?_eq_getElem T];rfl
   have lj:=G.lt (k:=j) (by omega);have mj:ks.getD (p.getD j 0) []∈ks:=by
    have h':p.getD j 0<ks.length:=by omega
    rw[vF,vU h'];exact getElem_mem h'
   have nl:¬cQ (ks.getD (p.getD j 0) [])<cQ (ks.getD (p.getD i 0) []):=λz=>by
    have:=Ba (cs:=ks.map cQ) (uS ⟨_,mj,rfl⟩) z;omega
   simp only[List.getElem_map,Array.getElem_toList];unfold G0;rw[←gi,←gj];exact nl
 rw[←e,uP];rfl
@[simp] def we (kd:LD->Option (List (List At)))(ok:List (List At)->Bool)(f:FE)(M:Env->D->Option D):FE:=λρ=>(f ρ).bind λx=>match x.1 with
 |.lst ds=>(ji (M ρ) ds).bind λG=>(kd G).bind λks=>if ks.length<64/\eJ ks=true/\ok ks=true/\(ks.map cQ).Nodup then some (.lst (jj ks ds),true)else none
 |_=>none
@[simp] abbrev qc:FE->(Env->D->Option D)->FE:=we dF fM
section
variable {X:Cx}{e ke:Expr}{p pos kp:Pos}
def EJ {kd:LD->Option (List (List At))}{ok:List (List At)->Bool}(M:KK X X.A.in1.in1 kd ok){f:FE}{kf:Env->D->Option D}(hm:X.mg "sorted" = none)(he:JE X e f)(hk:JK X X.A.in1.in1 ke kf)(hg:Gl X "sorted":=by rfl)
  (RK:starEach [e] X.env=[(false,eval e X.env)]:=by rfl) (RL:backTo pos (starEach [e] X.env)=(false,eval e X.env)::backTo pos (starEach [] X.env):=by rfl) (O:(backTo pos (starEach [e] X.env)).any (·.1)=false:=by rfl)
  (Gq:(backToKw pos (keywordEach [⟨some "key",ke,kp⟩] X.env)).all (·.1.isSome)=true:=by rfl) (RM:(backToKw pos (keywordEach [⟨some "key",ke,kp⟩] X.env)).any (·.1.isNone)=false:=by rfl)
  (RN:(backToKw pos (keywordEach [⟨some "key",ke,kp⟩] X.env)).filterMap (·.1)=[("key" : Str)]:=by rfl):
  JE X (.Call (.Name "sorted" p) [e] [⟨some "key",ke,kp⟩] pos) (we kd ok f kf):=by
 intro ae s σ H Q I h;obtain⟨B,ρ,d,b,sB,rep,G,q⟩:=h;obtain⟨⟨xd,xb⟩,ex,G⟩:=oX G;cases xd<;>try (cases G;done)
 rename_i ds;obtain⟨jw,em,G⟩:=oX G;obtain⟨ks,ek,G⟩:=oX G;split at G
 ·rename_i hh;obtain⟨Kq,hc,hf,nd⟩:=hh;cases G
  refine wpAny_Call_Name_kw (gX I hg hm (u:=.builtin "sorted") rfl ?_);refine callWith_kw (cn ((gN he jy RK) pos ae s σ H (λvs H1=>∃v N,vs=[v]/\Ext B N H H1/\Is X.K N v (.lst ds)) I ⟨B,ρ,_,_,sB,rep,ex,λv H1 N T i1 _=>⟨v,N,rfl,T,i1⟩⟩) λus s1 hA=>?_) RL O Gq RM;obtain⟨Wn,H1,I1,r1,v,N,rfl,T,i1⟩:=hA;obtain⟨u,rfl,ru⟩:=gI r1;refine kws_cons (hk ae s1 σ H1 N ρ _ _ I1 T.nh (rep.mono T.bn) λqa H2 s2 I2 m2 G3=>kws_nil ?_);rw[RN];show wpAny _ _ (call (.builtin "sorted") [u] [(("key" : Str),.ref qa)]) _ _ _;cases i1
  rename_i l vs hq il;cases ru
  have sN:bc N H2:=T.nh.trans m2;obtain⟨its,rv,pl,hz⟩:=I2.list (sN.seq hq);have Mw:vs.length=its.length:=rv.length;have MV:ds.length=vs.length:=il.length.symm;have Wg:jw.length=ds.length:=kg em;have T9:ks.length=jw.length:=M.len ek;have RO:its.length<64:=by omega
  refine call_function_entry_kw kind_sorted plain_sorted entry_sorted (ksk_s1 _ _) ?_;unfold Builtin.«sorted»;refine wX (m:=checkCount "sorted" 1 1 _) (wY (wX (collect_list pl.isList (wX (wpAny_newList ?_ (by rw[sizeLine_eq];omega))) (by rw[sizeLine_eq];omega))));let h1:Heap:=(s2.heap.push (seqObj "list" #[] 0)).update s2.heap.objs.size (Obj.mapSeq (· ++ its.toArray));have hsz:h1.objs.size=s2.heap.objs.size+1:=by show(Heap.update _ _ _).objs.size=_;rw[Heap.size_update,size_push']
  have U:∀b o,s2.heap.get? b=some o->h1.get? b=some o:=λb o q=>(Heap.get?_update_ne _ _ _ _ (vS (vX q))).trans (vZ _ q);have I3:Inv X ((h1.objs.size,seqObj "list" its.toArray 0)::ae) σ H2 { s2 with heap:=h1.push (seqObj "list" its.toArray 0) } :=
   oP (t':=s2.toks) I2 (λb u q=>vZ _ (U b u q)) (by rw[hsz];exact le_succ _) (vY _ rfl) dm
  have p3:=I3.pin (h1.objs.size,seqObj "list" its.toArray 0) (mY _ mX);show wpAny (model X.prog X.w) X.A.in1 (holding [.ref h1.objs.size] (call (.builtin "list.sort") [.ref h1.objs.size] [(("key" : Str),.ref qa)])>>=_) _ _ { s2 with heap:=h1.push (seqObj "list" its.toArray 0) };refine wX (wpAny_holding (wpAny_call_entry_kw slot_list_sort ⟨_,p3.1,rfl⟩ entry_list_sort ?_ (ksk_l1 _ _)));show wpAny (model X.prog X.w) X.A.in1.in1 (Builtin.«list.sort» ⟨[.ref h1.objs.size],[(Str.ofString "key",.ref qa)]⟩) _ _ _;rw[ksk_t1];refine zY I3 (vR I2.sz (by rw[hsz];exact le_succ _)) (λq hq=>by rw[hsz];exact vS (lt_succ_of_lt (vX (I2.pin q hq).1))) G3 rv il sN M em ek hc hf RO λpm s' H' N' ap up J x3 hn=>⟨_,rfl,wY ⟨_,rfl,?_⟩⟩;have O:its.length=ds.length:=by omega
  rw[O]at ap up;have er:=zZ (by omega) hc (yc nd) ap up;have M0:∀i∈pm.toList,i<ds.length:=λi hi=>mem_range.mp (ap.perm.mem_iff.mp hi);have ip:=xY (il.mono x3.bn) pm.toList M0;rw[er]at ip;have x4:Ext B N' H H':=(T.trans (.grow T.nh m2)).trans x3;have hN:N' h1.objs.size=none:=x3.nh.free hn;have x5:=x4.trans (Ext.laid (o:=.lst (pm.toList.map λi=>vs.getD i .non)) x3.nh hn);exact⟨.ref h1.objs.size,_,J,rfl,q _ _ _ x5 (.lst (fT.of aC) (ip.mono (Ext.laid (o:=.lst (pm.toList.map λi=>vs.getD i .non)) x3.nh hn).bn)) λ_=>⟨_,_,_,rfl,rfl,x4.hh.free hn,aC,ip.mono (Ext.laid (o:=.lst (pm.toList.map λi=>vs.getD i .non)) x3.nh hn).bn⟩⟩
 ·cases G
end
noncomputable def U9 {f:String->CmpOp->Builtin}(_:f "__lt__" .Lt=Builtin.«tuple.__lt__»):=f
noncomputable def S9:String->CmpOp->Builtin:=U9 rfl
section
variable {prog:Program}{w:World}{A:Around}{E:QV}{s:Shared}{op:CmpOp}
def hV.type (h:hV s.heap xs v):s.TypeIs v "tuple":=by
 obtain⟨a,o,its,n,rfl,ho,hc,_⟩:=h;exact⟨o,ho,hc⟩
inductive GeW (prog:Program)(w:World)(A:Around)(s:Shared)(op:CmpOp)(iB r:Bool):List (Value×Value)->Prop
 |nil (h:iB=r):GeW prog w A s op iB r []
 |eq {u v:Value}{l:List (Value×Value)}(h:SeqAt.EqAt A s u v true) (t:GeW prog w A s op iB r l):GeW prog w A s op iB r ((u,v)::l)
 |ne {u v:Value}{l:List (Value×Value)}(h:SeqAt.EqAt A s u v false) (t:∀(Q E:Value->Shared->Prop),Q (.bool r) s->wpAny (model prog w) A (richCompare op u v) Q E s):GeW prog w A s op iB r ((u,v)::l)
def HQ {nm:String}(O:s.TypeIs (.ref b) "tuple")(T:s.heap.get? a=some oa)(U:oa.data=.seq its na)(Wo:s.heap.get? b=some ob)(RA:ob.data=.seq D7 nb)
  (W:GeW prog w A s op iB r (its.toList.zip D7.toList)) (hz:Builtin.Tuple.tupleCompareSizes op its.size D7.size=.bool iB) (Wp:op=.Lt∨op=.Gt∨op=.GtE) (q:P (.done (.ret (.bool r))) s):wpAny (model prog w) A (S9 nm op ⟨[.ref a,.ref b],[]⟩) P E s:=by
 show wpAny _ _ (isInstance (.ref _) (.type "tuple")>>=_) _ _ s;refine wX (wpAny_isInstance O isSubtype_tuple_tuple ?_);simp only[Bool.not_true,uV,if_false];refine wX (wpAny_tupleItemsOf T U ?_);refine wX (wpAny_tupleItemsOf Wo RA ?_);refine wX ?_;refine wpAny_forIn_list _ (λaE z s'=>z.1=none/\s'=s/\GeW prog w A s op iB r aE) _ ?_ ?_ _ _ ⟨rfl,rfl,W⟩
 ·rintro⟨u,v⟩ aE z s' ⟨hz,rfl,W⟩;cases W with
  |eq h t=>
   refine wX (h _ _ _ _ ?_);simp only[Bool.not_true,uV,if_false];exact wY ⟨rfl,rfl,t⟩
  |ne h t=>
   refine wX (h _ _ _ _ ?_);simp only[Bool.not_false,if_true];have t:=t (λv G=>v=.bool r/\G=s') E ⟨rfl,rfl⟩;rcases Wp with rfl|rfl|rfl<;>exact wX (wpAny_rule (wX (wpAny_mono t (λv G hv=>by obtain⟨rfl,rfl⟩:=hv;exact wX (wY (wY (wY q)))) λ_ _ z=>z)))
 ·rintro⟨z1,z2⟩ s' ⟨M,rfl,W⟩;simp only at M;subst M;refine wY ?_;cases W with
  |nil h=>
   show P (.done (.ret (Builtin.Tuple.tupleCompareSizes op its.size D7.size))) s';rw[hz,h];exact q
structure CmR (prog:Program)(w:World)(A:Around)(s:Shared)(op:CmpOp)(R:List At->List At->Bool->Prop)(fl:Nat->Nat->Bool):Prop where
 ei:∀ {a xs ys r},R (.i a::xs) (.i a::ys) r->R xs ys r
 es:∀ {a xs ys r},R (.s a::xs) (.s a::ys) r->R xs ys r
 ni:∀ {a c xs ys r},a≠c->R (.i a::xs) (.i c::ys) r->∀t u (Q E:Value->Shared->Prop),Q (.bool r) s->wpAny (model prog w) A (richCompare op (.int a t) (.int c u)) Q E s
 ns:∀ {a c xs ys r},a≠c->R (.s a::xs) (.s c::ys) r->∀t u (Q E:Value->Shared->Prop),Q (.bool r) s->wpAny (model prog w) A (richCompare op (.str a t) (.str c u)) Q E s
 mx:∀ {a c xs ys r},¬R (.i a::xs) (.s c::ys) r/\¬R (.s c::xs) (.i a::ys) r
 en:∀ {xs r},(R [] xs r->fl 0 xs.length=r)/\(R xs [] r->fl xs.length 0=r)
 fs:∀ {m n},fl (m+1) (n+1)=fl m n
theorem qd (C:CmR prog w A s op R fl):∀(xs ys:List At)(its O:LU),Paired zn xs its->Paired zn ys O->R xs ys r->GeW prog w A s op (fl xs.length ys.length) r (its.zip O)
 |[],_,_,_,.nil,_,h=>.nil (C.en.1 h)
 |_::_,[],_,_,.cons _ _,.nil,h=>.nil (C.en.2 h)
 |.i _::_,.s _::_,_,_,_,_,h=>absurd h C.mx.1
 |.s _::_,.i _::_,_,_,_,_,h=>absurd h C.mx.2
 |.i a::xs,.i c::ys,_,_,.cons T G,.cons U M,h=>by
  obtain⟨t,rfl⟩:=T;obtain⟨u,rfl⟩:=U;have he:=SeqAt.EqAt.int_int (A:=A) (s:=s) a t c u;rw[zip_cons_cons,vE,vE,C.fs];by_cases e:a=c
  ·subst e;rw[show(a == a)=true by simp]at he;exact .eq he (qd C xs ys _ _ G M (C.ei h))
  ·rw[show(a == c)=false by simp[e]]at he;exact .ne he (C.ni e h t u)
 |.s a::xs,.s c::ys,_,_,.cons T G,.cons U M,h=>by
  obtain⟨t,rfl⟩:=T;obtain⟨u,rfl⟩:=U;have he:=SeqAt.EqAt.str_str (A:=A) (s:=s) a t c u;rw[zip_cons_cons,vE,vE,C.fs];by_cases e:a=c
  ·subst e;rw[show(a == a)=true by simp]at he;exact .eq he (qd C xs ys _ _ G M (C.es h))
  ·rw[show(a == c)=false by simp[e]]at he;exact .ne he (C.ns e h t u)
def Oq:CmR prog w A s .Lt (λxs ys r=>br xs ys=some r) (λm n=>decide (m<n)) where
 ei h:=by rwa [br,if_pos rfl]at h
 es h:=by rwa [br,if_pos rfl]at h
 ni e h _ _ _ _ q:=by rw[br,if_neg e]at h;cases h;exact PyProof.Rows.lt_int q
 ns e h _ _ _ _ q:=by rw[br,if_neg e]at h;cases h;exact PySem.P.lt_str q
 mx:=by simp[br]
 en:=λ{xs}=>by cases xs<;>simp[br]
 fs:=by simp
def Ot:CmR prog w A s .Gt (λxs ys r=>br ys xs=some r) (λm n=>decide (n<m)) where
 ei h:=by rwa [br,if_pos rfl]at h
 es h:=by rwa [br,if_pos rfl]at h
 ni e h _ _ _ _ q:=by rw[br,if_neg (Ne.symm e)]at h;cases h;exact PyProof.Rows.gt_int q
 ns e h _ _ _ _ q:=by rw[br,if_neg (Ne.symm e)]at h;cases h;exact PySem.P.gt_str q
 mx:=by simp[br]
 en:=λ{xs}=>by cases xs<;>simp[br]
 fs:=by simp
def EK (hx:hV s.heap xs (.ref a)):∃o its n,s.heap.get? a=some o/\o.data=.seq its n/\Paired zn xs its.toList/\xs.length=its.size:=by
 obtain⟨G,o,its,n,e,ho,hc,hd,p⟩:=hx;cases e
 exact⟨o,its,n,ho,hd,p,by rw[←vG];exact ge p⟩
def JX {nm:String}(C:CmR prog w A s op R fl)(hz:∀m n,Builtin.Tuple.tupleCompareSizes op m n=.bool (fl m n))(G:op=.Lt∨op=.Gt∨op=.GtE)(hx:hV s.heap xs (.ref a))(hy:hV s.heap ys (.ref b))(h:R xs ys r)(q:P (.done (.ret (.bool r))) s):wpAny (model prog w) A (S9 nm op ⟨[.ref a,.ref b],[]⟩) P E s:=by
 have hb:=hy.type;obtain⟨_,_,_,ho,hd,p,T⟩:=EK hx;obtain⟨_,_,_,M,O,U,l2⟩:=EK hy;exact HQ hb ho hd M O (qd C _ _ _ _ p U h) (by rw[T,l2];exact hz _ _) G q
def EL (hx:hV s.heap xs x)(hy:hV s.heap ys y)(h:br xs ys=some r)(hu:A.units<cLine)(q:Q (.bool r) s):wpAny (model prog w) A (richCompare .Lt x y) Q E s:=by
 have G:=hx.type;have ty:=hy.type;obtain⟨a,_,_,_,rfl,_⟩:=id hx;obtain⟨b,_,_,_,rfl,_⟩:=id hy;exact wpAny_richCompare_same_room (op:=.Lt) G ty slot_tuple_lt (wpAny_call_entry slot_tuple_lt G PySem.F.entry_tuple_lt (JX Oq (λ_ _=>rfl) (.inl rfl) hx hy h ⟨_,rfl,(λe=>nomatch e),q⟩) (PySem.F.args_tuple_lt_2 _ _)) hu
def Ou (hx:hV s.heap xs x)(hy:hV s.heap ys y)(h:br ys xs=some r)(hu:A.units<cLine)(q:Q (.bool r) s):wpAny (model prog w) A (richCompare .Gt x y) Q E s:=by
 have G:=hx.type;have ty:=hy.type;obtain⟨a,_,_,_,rfl,_⟩:=id hx;obtain⟨b,_,_,_,rfl,_⟩:=id hy;exact wpAny_richCompare_same_room (op:=.Gt) G ty slot_tuple_gt (wpAny_call_entry slot_tuple_gt G PySem.F.entry_tuple_gt (JX Ot (λ_ _=>rfl) (.inr (.inl rfl)) hx hy h ⟨_,rfl,(λe=>nomatch e),q⟩) (PySem.F.args_tuple_gt_2 _ _)) hu
end
def mr:List At×D->List (List At×D)->D
 |b,[]=>b.2
 |b,x::r=>if br b.1 x.1=some true then mr x r else mr b r
def lq:List At×D->List (List At×D)->D
 |b,[]=>b.2
 |b,x::r=>if br x.1 b.1=some true then lq x r else lq b r
noncomputable def UA {f:String->CmpOp->Builtin}(_:f "max" .Gt=Builtin.«max.loop»):=f
noncomputable def UB:String->CmpOp->Builtin:=UA rfl
noncomputable def UC {f:String->Builtin}(_:f "max" = Builtin.«max»):=f
noncomputable def UD:String->Builtin:=UC rfl
structure MM (nm lp:String)(ns:Str)(op:CmpOp)(lt:List At->List At->Option Bool)(go:List At×D->List (List At×D)->D):Prop where
 hn:(toString nm++toString ".loop" : String)=lp
 en:entryFor table lp=some (UB nm op)
 pl:plainId lp=true
 k2:builtinKind nm=none
 p2:plainId nm=true
 e2:entryFor table nm=some (UD nm)
 ka:∀a v:Value,argsOk nm ⟨[a],[(Str.ofString "key",v)]⟩
 bt:bootBuiltins ns=some (.builtin nm)
 n1:ns ≠ "__name__"
 n2:(ns == ("__debug__" : Str))=false
 g0:∀b,go b []=b.2
 g1:∀b x r,go b (x::r)=if lt b.1 x.1=some true then go x r else go b r
 cg:∀ {ks:List (List At)},eJ ks=true->∀ {a b},a∈ks->b∈ks->∃r,lt a b=some r
 rc:∀ {prog:Program}{w:World}{A:Around}{E:Value->Shared->Prop}{s:Shared}{xs ys:List At}{x y:Value}{r:Bool}{Q:Value->Shared->Prop},hV s.heap xs x->hV s.heap ys y->lt ys xs=some r->A.units<cLine->Q (.bool r) s->wpAny (model prog w) A (richCompare op x y) Q E s
def SA:MM "max" "max.loop" "max" .Gt br mr :=
 ⟨by decide,PySem.F.entry_max_loop,PySem.F.plain_max_loop,PySem.F.kind_max,PySem.F.plain_max,PySem.F.entry_max,λ_ _=>by unfold argsOk;kernel_rfl,rfl,by decide,by decide,λ_=>rfl,λ_ _ _=>rfl,λh _ _ a b=>⟨_,gT h a b⟩,Ou⟩
def QH:MM "min" "min.loop" "min" .Lt (λa b=>br b a) lq :=
 ⟨by decide,PySem.F.entry_min_loop,PySem.F.plain_min_loop,PySem.F.kind_min,PySem.F.plain_min,PySem.F.entry_min,λ_ _=>by unfold argsOk;kernel_rfl,rfl,by decide,by decide,λ_=>rfl,λ_ _ _=>rfl,λh _ _ a b=>⟨_,gT h b a⟩,EL⟩
section
variable {X:Cx}{ae:AO}{σ:St}
def Aa (J:Inv X ((a1,o1)::(a2,o2)::ae) σ H' s'):Inv X ((a2,o2)::(a1,o1)::ae) σ H' s' :=
 J.pins_of λq hq=>J.pin q (by
  rcases vP hq with rfl|hq
  ·exact mY _ (mZ _ mX)
  ·rcases vP hq with rfl|hq
   ·exact mY _ mX
   ·exact mY _ (mZ _ (mZ _ hq)))
def qe (hp:∀q∈X.pn++ae,q.1≠a)(h:S≠a):∀q∈X.pn++((S,o)::ae),q.1≠a:=λq hq=>by
 rcases mem_append.mp hq with hq|hq
 ·exact hp q (mem_append_left _ hq)
 ·rcases vP hq with rfl|hq
  ·exact h
  ·exact hp q (mY _ hq)
def oQ (I:Inv X ae σ H s)(r:aY v u)(i:Is X.K H v d)(e:xV d=some k):hV s.heap k u:=by
 have:=oN I (ys:=[v]) (ds:=[d]) (ks:=[k]) (its:=[u]) (.cons r .nil) (.cons i .nil) (by simp only[dF,e];rfl);cases this;assumption
inductive MK (X:Cx)(ae:List (Addr×Obj))(σ:St)(S It l:Addr)(o:Obj)(j:Nat)(N H:Hp)(y:List At×D)(u ku:Value)(s:Shared):Prop
 |mk (H2 N2:Hp) (v kv:V) (kd:D) (oI:Obj) (J:Inv X ((S,o)::(It,oI)::ae) σ H2 s) (zr:s.heap.IsListIter It l (j+1)) (x:Ext N N2 H H2) (ru:aY v u) (iv:Is X.K N2 v y.2) (rk:aY kv ku) (ik:Is X.K N2 kv kd) (ek:xV kd=some y.1)
def EM {E:QV}{It:Addr}(hh:X.A.handled=none)(G3:Bf X X.A.in1 σ (.ref qa) B H1 kf)(hq:fT X.K B l vs)(iv:IsL X.K B vs ds)(em:ji kf ds=some jw)(ek:dF jw=some ks)(I0:X.s₀.heap.objs.size<=It)(M3:∀q∈X.pn++((S,o)::ae),q.1≠It)
  (M4:l≠It) (hz:(ks.zip ds)[j]? = some y) (I:Inv X ((S,o)::(It,oI)::ae) σ H s) (zr:s.heap.IsListIter It l j) (G:Ext B N H1 H):
  wpAny (model X.prog X.w) X.A.in1 (pyNext (.ref It)) (λr s1=>∃u,r=some u/\wpAny (model X.prog X.w) X.A.in1 (call (.ref qa) [u]) (MK X ae σ S It l o j N H y u) (λ_ _=>False) s1) E s:=by
 obtain⟨its,rv,pl,_⟩:=I.list ((G.bn.trans G.nh).seq hq);obtain⟨hk,hd⟩:=getElem?_zip_eq_some.mp hz;obtain⟨v,hv,O⟩:=iv.get hd;obtain⟨kd,T,RH⟩:=pZ em hd;obtain⟨u,hu,ru⟩:=rv.get hv;have MX:xV kd=some y.1:=by
  have:=tG ek (i:=j) (vV T).1;rw[vF,T,vF,hk]at this;exact this
 refine(Walks.list (prog:=X.prog) (w:=X.w) (A:=X.A.in1) hh It l M4 its.toArray).item j _ _ _ (by simpa using(vV hu).1) ⟨zr,pl.isList⟩ λu' h' Ju hP U Ko=>?_;have Pj:its[j]? = some u':=by simpa using hP
 rw[hu]at Pj;cases Pj;obtain⟨M,RP,Jl,TJ⟩:=id U.1;exact⟨u,rfl,cn (G3 _ _ H N v u y.2 kd (Aa (hW (t':=Ju) (Aa I) I0 M3 (λb o n e=>Ko b o (by simpa using n) e) RP (λv z=>by rw[TJ]at z;cases z))) G.hh G.bn G.nh (O.mono G.bn) ru RH) λku s2 ⟨kv,H2,J4,rk,N2,x2,ik⟩=>
  ⟨H2,N2,v,kv,kd,M,J4,⟨M,(J4.pin (It,M) (mY _ (mZ _ mX))).1,Jl,TJ⟩,x2,ru,O.mono (G.bn.trans x2.bn),rk,ik,MX⟩⟩
def HR {nm lp:String}{ns:Str}{op:CmpOp}{lt:List At->List At->Option Bool}{go:List At×D->List (List At×D)->D}(M:MM nm lp ns op lt go){qv:Value}{l S It:Addr}{vs:LV}{ds jw:LD}{ks:List (List At)}{B H1:Hp}{kf:D->Option D}{d0:D}{R:Result->Shared->Prop}(hh:X.A.handled=none)(hu:X.A.in1.units<cLine)(G3:Bf X X.A.in1 σ qv B H1 kf)(Wq:∃a,qv=.ref a)(hq:fT X.K B l vs)(iv:IsL X.K B vs ds)
  (em:ji kf ds=some jw) (ek:dF jw=some ks) (hc:eJ ks=true) (S0:X.s₀.heap.objs.size<=S) (I0:X.s₀.heap.objs.size<=It) (Pl:∀q∈X.pn++ae,q.1≠S) (M3:∀q∈X.pn++ae,q.1≠It) (M2:S≠It) (PU:S≠l) (M4:l≠It)
  (hR:∀(s':Shared)(H' N:Hp)(v:V)(u:Value),Inv X ae σ H' s'->Ext B N H1 H'->aY v u->Is X.K N v d0->R (.ok (.ret u)) s'):
  ∀(r j:Nat)(s:Shared)(H N:Hp)(O G:Value)(vb T:V)(db U:D)(kb:List At)(c:Nat)(oI:Obj),vs.length - j=r->j<=vs.length->Inv X ((S,seqObj "list" #[O,G] c)::(It,oI)::ae) σ H s->s.heap.IsListIter It l j->Ext B N H1 H ->
   aY vb O->Is X.K N vb db->aY T G->Is X.K N T U->xV U=some kb->kb∈ks->go (kb,db) ((ks.zip ds).drop j)=d0 ->
   codeAny (model X.prog X.w) X.A (.builtin lp ⟨[.ref It,qv,.ref S],[]⟩) R s:=by
 obtain⟨qa,rfl⟩:=Wq;intro r;induction r with
 |zero=>
  intro j s H N O G vb T db U kb c oI hr hj I zr x1 r1 i1 r2 i2 ekb mk hd;have pS:=I.pin (S,seqObj "list" #[O,G] c) (mY _ mX);have sB:bc B H:=x1.bn.trans x1.nh;obtain⟨its,rv,pl,_⟩:=I.list (sB.seq hq);have hl:=pl.isList;have W:=Walks.list (prog:=X.prog) (w:=X.w) (A:=X.A.in1) hh It l M4 its.toArray;have hsz:its.toArray.size=its.length:=vH ..;have Mw:vs.length=its.length:=rv.length;have MV:ds.length=its.length:=by rw[←iv.length];exact rv.length
  have TK:ks.length=ds.length:=by rw[kP ek,kg em]
  have RG:db=d0:=by
   rw[List.drop_of_length_le (by rw[length_zip];omega)]at hd;rw[M.g0]at hd;exact hd
  subst RG;refine codeAny_builtin M.en ?_;rw[Around.under_plainId M.pl _];show wpAny _ X.A.in1 (seqItems? (.ref S)>>=_) _ _ _;refine wX (wpAny_seqItems pS.1 rfl ?_);show wpAny _ X.A.in1 (tryCatch (pyNext (.ref It)) _>>=_) _ _ _;refine wX (wpAny_tryCatch (W.done _ _ _ ⟨by rw[hsz,show its.length=j by omega];exact zr,hl⟩ λh' Ju Ko=>?_));have J1:Inv X ((It,oI)::(S,seqObj "list" #[O,G] c)::ae) σ H s:=Aa I;have RQ:∀q∈X.pn++((S,seqObj "list" #[O,G] c)::ae),q.1≠It:=qe M3 M2;have J2:Inv X ((S,seqObj "list" #[O,G] c)::ae) σ H { s with heap:=h',toks:=Ju } :=
   (jZ J1).turned (t':=Ju) (λb o n e=>Ko b o (by simpa using n) e) (J1.pin (It,oI) (mY _ mX)).2.1 (J1.pin (It,oI) (mY _ mX)).2.2.1 (.inr I0) (nz J1) RQ
  have TL:=J2.pin (S,seqObj "list" #[O,G] c) (mY _ mX);obtain⟨c2,Kr⟩:∃c2,(h'.update S (Obj.mapSeq λ_=>(#[]:AV))).get? S=some (seqObj "list" #[] c2):=⟨_,get?_update_seq TL.1 λ_=>#[]⟩;have u2:=vW h' S (Obj.mapSeq λ_=>(#[]:AV));show wpAny _ X.A.in1 (updateSeq S (λ_=>#[])>>=_) _ _ _;refine wX ?_;refine wpAny_updateSeq TL.1 rfl (wX (wpAny_letGo (wY ?_)));exact hR _ H N vb O (jZ (hW (t':=Ju) J2 S0 Pl (λb o n e=>(u2.2 b n).trans e) Kr dm)) x1 r1 i1
 |succ r ih=>
  intro j s H N O G vb T db U kb c oI hr hj I zr x1 r1 i1 r2 i2 ekb mk hd;have zq:j<(ks.zip ds).length:=by rw[length_zip,kP ek,kg em,←iv.length];omega
  have pS:=I.pin (S,seqObj "list" #[O,G] c) (mY _ mX);have hz:=vU zq;rw[List.drop_eq_getElem_cons zq,M.g1]at hd;generalize (ks.zip ds)[j]=y at hz hd;have hm:y.1∈ks:=vL (getElem?_zip_eq_some.mp hz).1;obtain⟨r,RS⟩:=M.cg hc mk hm;refine codeAny_builtin M.en ?_;rw[Around.under_plainId M.pl _];show wpAny _ X.A.in1 (seqItems? (.ref S)>>=_) _ _ _;refine wX (wpAny_seqItems pS.1 rfl ?_);show wpAny _ X.A.in1 (tryCatch (pyNext (.ref It)) _>>=_) _ _ _;refine wX (wpAny_tryCatch (cn (EM hh G3 hq iv em ek I0 (qe M3 M2) M4 hz I zr x1) λ_ s1 ⟨u,e,h1⟩=>?_));subst e;show wpAny _ X.A.in1 (tryCatch (holding [u] (call (.ref qa) [u])) _>>=_) _ _ _;refine wX (wpAny_tryCatch (wpAny_holding (wpAny_mono h1 (λku s2 ⟨H2,N2,v,kv,kd,PV,J4,Pm,x2,ru,Ph,rk,ik,MX⟩=>?_) λ_ _ z=>z.elim)));have t1:=oQ J4 rk (ik.mono x2.nh) MX;have t2:=oQ J4 r2 (i2.mono (x2.bn.trans x2.nh)) ekb;show wpAny _ X.A.in1 (tryCatch (holding [u,ku] (richCompare op ku G>>=_)) _>>=_) _ _ _;refine wX (wpAny_tryCatch (wpAny_holding (wX (M.rc t1 t2 RS hu ?_))));refine wX (wpAny_holding (wpAny_truthy_bool ?_));refine wX (wpAny_letGo (wY ?_));cases r with
  |true=>
   rw[if_pos RS]at hd;have u2:=vW s2.heap S (Obj.mapSeq λ_=>#[u,ku]);simp only[if_true];have Pn:=J4.pin (S,seqObj "list" #[O,G] c) (mY _ mX);refine wX (wpAny_updateSeq Pn.1 rfl (wX (wpAny_letGo ?_)));rw[M.hn];obtain⟨o,g1,g2⟩:=Pm;exact wY ⟨plainId_quiet M.pl _,ih (j+1) _ H2 N2 u ku v kv y.2 kd y.1 _ PV (by omega) (by omega) (hW (t':=s2.toks) J4 S0 (qe Pl M2.symm) (λb o n e=>(u2.2 b n).trans e) (get?_update_seq Pn.1 λ_=>#[u,ku]) dm) ⟨o,(u2.2 It M2.symm).trans g1,g2⟩ (x1.trans x2) ru Ph rk ik MX hm hd⟩
  |false=>
   rw[if_neg (by rw[RS];simp)]at hd;simp only[uV,if_false];refine wX (wpAny_letGo ?_);rw[M.hn];exact wY ⟨plainId_quiet M.pl _,ih (j+1) _ H2 N2 O G vb T db U kb c PV (by omega) (by omega) J4 Pm (x1.trans x2) r1 (i1.mono x2.bn) r2 (i2.mono x2.bn) ekb mk hd⟩
end
@[simp] def LP (go:List At×D->List (List At×D)->D)(f:FE)(M:Env->D->Option D):FE:=λρ=>(f ρ).bind λx=>match x.1 with
 |.lst ds=>(ji (M ρ) ds).bind λG=>(dF G).bind λks=>if eJ ks=true then match ks.zip ds with
  |[]=>none
  |y::r=>some (go y r,false)
  else none
 |_=>none
@[simp] def tJ:=LP mr
@[simp] def tK:=LP lq
section
variable {X:Cx}{e ke:Expr}{p pos kp:Pos}
def ye {nm lp:String}{ns:Str}{op:CmpOp}{lt:List At->List At->Option Bool}{go:List At×D->List (List At×D)->D}(M:MM nm lp ns op lt go){f:FE}{kf:Env->D->Option D}{k:Nat}(hm:X.mg ns=none)(he:JE X e f)(hk:JK X X.A.in1 ke kf)(hr:fg k X.A)(hg:Gl X ns:=by rfl)
  (RK:starEach [e] X.env=[(false,eval e X.env)]:=by rfl) (RL:backTo pos (starEach [e] X.env)=(false,eval e X.env)::backTo pos (starEach [] X.env):=by rfl) (Jr:(backTo pos (starEach [e] X.env)).any (·.1)=false:=by rfl)
  (Gq:(backToKw pos (keywordEach [⟨some "key",ke,kp⟩] X.env)).all (·.1.isSome)=true:=by rfl) (RM:(backToKw pos (keywordEach [⟨some "key",ke,kp⟩] X.env)).any (·.1.isNone)=false:=by rfl)
  (RN:(backToKw pos (keywordEach [⟨some "key",ke,kp⟩] X.env)).filterMap (·.1)=[("key" : Str)]:=by rfl):
  JE X (.Call (.Name ns p) [e] [⟨some "key",ke,kp⟩] pos) (LP go f kf):=by
 intro ae s σ H Q I h;obtain⟨B,ρ,d,b,sB,rep,G,q⟩:=h;obtain⟨⟨xd,xb⟩,ex,G⟩:=oX G;cases xd<;>try (cases G;done)
 rename_i ds;obtain⟨jw,em,G⟩:=oX G;obtain⟨ks,ek,G⟩:=oX G;split at G
 ·rename_i hc;split at G
  ·cases G
  ·rename_i y aE ez;cases G
   refine wpAny_Call_Name_kw (gX I hg hm M.bt ?_ M.n1 M.n2);refine callWith_kw (cn ((gN he jy RK) pos ae s σ H (λvs H1=>∃v N,vs=[v]/\Ext B N H H1/\Is X.K N v (.lst ds)) I ⟨B,ρ,_,_,sB,rep,ex,λv H1 N T i1 _=>⟨v,N,rfl,T,i1⟩⟩) λus s1 hA=>?_) RL Jr Gq RM;obtain⟨Wn,H1,I1,r1,v,N,rfl,T,i1⟩:=hA;obtain⟨u,rfl,ru⟩:=gI r1;refine kws_cons (hk ae s1 σ H1 N ρ _ _ I1 T.nh (rep.mono T.bn) λU H2 s2 I2 m2 G3=>kws_nil ?_);rw[RN];show wpAny _ _ (call (.builtin nm) [u] [(("key" : Str),.ref U)]) _ _ _;cases i1
   rename_i l vs hq il;cases ru
   have sN:bc N H2:=T.nh.trans m2;obtain⟨its,rv,pl,hz⟩:=I2.list (sN.seq hq);have RT:l<s2.heap.objs.size:=by
    obtain⟨ol,PP,_⟩:=pl.isList;exact vX PP
   have z0:(ks.zip ds)[0]? = some y:=by rw[ez];rfl
   have Wr:=vL (getElem?_zip_eq_some.mp z0).1;refine kmk_tree M.k2 M.p2 M.e2 (M.ka _ _) ?_;show wpAny _ X.A.in1 (Builtin.Builtins.bindParams nm ["key","default"] 0 ⟨[],[(Str.ofString "key",.ref U)]⟩>>=_) _ _ s2;refine wX (wpAny_of_eq (show Builtin.Builtins.bindParams nm ["key","default"] 0 ⟨[],[(Str.ofString "key",.ref U)]⟩=pure [some (.ref U),none]from rfl) ?_);refine wX (wY ?_);refine wX (wpAny_pyIter_list pl.isList ?_);refine wX (wpAny_newList ?_ (uN _));rw[M.hn];let It:Addr:=s2.heap.objs.size;let oI:Obj:={ cls:=.type "list_iterator",data:=.fields #[.ref l,.int 0 0] };let S:Addr:=(s2.heap.push oI).objs.size;have hS:S=s2.heap.objs.size+1:=size_push' ..;have O:S≠It:=by rw[hS];exact ne_of_gt (lt_succ_self _)
   have J1:Inv X ((It,oI)::ae) σ H2 { s2 with heap:=s2.heap.push oI }:=oP (t':=s2.toks) I2 (λb u q=>vZ _ q) (vT _) (vY _ rfl) (λv z=>by cases z);have J2:Inv X ((S,seqObj "list" #[] 0)::(It,oI)::ae) σ H2 { s2 with heap:=(s2.heap.push oI).push (seqObj "list" #[] 0) }:=oP (s:={ s2 with heap:=s2.heap.push oI }) (t':=s2.toks) J1 (λb u q=>vZ _ q) (vT _) (vY _ rfl) dm;have I0:X.s₀.heap.objs.size<=It:=I2.sz;have S0:X.s₀.heap.objs.size<=S:=by rw[hS];exact le_succ_of_le I2.sz
   have M3:∀q∈X.pn++ae,q.1≠It:=λq hq=>vS (vX (I2.pin q hq).1);have Pl:∀q∈X.pn++ae,q.1≠S:=λq hq=>by rw[hS];exact vS (lt_succ_of_lt (vX (I2.pin q hq).1))
   have M4:l≠It:=vS RT;have PU:S≠l:=by rw[hS];exact ne_of_gt (lt_succ_of_lt RT)
   have hh:X.A.handled=none:=hr.hd;have hu:X.A.in1.units<cLine:=by have:=hr.un;show X.A.units+1<cLine;omega
   have pS:=J2.pin (S,seqObj "list" #[] 0) (mY _ mX);have pI:=J2.pin (It,oI) (mY _ (mZ _ mX));refine wY ⟨plainId_quiet M.pl _,?_⟩;refine codeAny_builtin M.en ?_;rw[Around.under_plainId M.pl _];show wpAny _ X.A.in1 (seqItems? (.ref S)>>=_) _ _ { s2 with heap:=(s2.heap.push oI).push (seqObj "list" #[] 0) };refine wX (wpAny_seqItems pS.1 rfl ?_);show wpAny _ X.A.in1 (tryCatch (pyNext (.ref It)) _>>=_) _ _ _;refine wX (wpAny_tryCatch (cn (EM hh G3 hq il em ek I0 (qe M3 O) M4 z0 J2 ⟨oI,pI.1,rfl,rfl⟩ (.refl sN)) λ_ s1 ⟨u,e,h1⟩=>?_));subst e;show wpAny _ X.A.in1 (tryCatch (holding [u] (call (.ref U) [u])) _>>=_) _ _ _;refine wX (wpAny_tryCatch (wpAny_holding (wpAny_mono h1 (λku s3 ⟨H3,N3,v,kv,kd,PV,J4,⟨o,g1,g2⟩,x3,ru,Ph,rk,ik,MX⟩=>?_) λ_ _ z=>z.elim)));have Pn:=J4.pin (S,seqObj "list" #[] 0) (mY _ mX);have u2:=vW s3.heap S (Obj.mapSeq λ_=>#[u,ku]);show wpAny _ X.A.in1 (updateSeq S (λ_=>#[u,ku])>>=_) _ _ _;refine wX (wpAny_updateSeq Pn.1 rfl ?_);rw[M.hn];have RU:1<=vs.length:=by
    have:=congrArg List.length ez;rw[length_zip,vE,←il.length]at this;omega
   exact wY ⟨plainId_quiet M.pl _,HR M (S:=S) (It:=It) hh hu G3 ⟨U,rfl⟩ hq il em ek hc S0 I0 Pl M3 O PU M4 (λs' H' N' v' u' J' x' r' i'=>⟨v',H',J',r',q _ _ _ ((T.trans (.grow T.nh m2)).trans x') i' (by simp)⟩) _ 1 _ H3 N3 u ku v kv y.2 kd y.1 _ PV rfl RU
    (hW (t':=s3.toks) J4 S0 (qe Pl O.symm) (λb o n e=>(u2.2 b n).trans e) (get?_update_seq Pn.1 λ_=>#[u,ku]) dm) ⟨o,(u2.2 It O.symm).trans g1,g2⟩ x3 ru Ph rk ik MX Wr (by rw[ez];rfl)⟩
 ·cases G
end
section
variable {X:Cx}
@[simp] def K0:D->D->OB
 |.tup xs,.tup ys=>(j8 xs).bind λG=>(j8 ys).bind λbs=>(br G bs).map λr=>(.bl r,false)
 |_,_=>none
def Ov (hu:X.A.units+40<cLine):dw X (compareOp .Lt) (rD X.K K0):=by
 intro ae s σ H x y v u Q I M O q;obtain⟨B,dx,T,d,b,G,U,iy,e,q⟩:=q;cases dx<;>try (simp[K0]at e;done)
 cases T<;>try (simp[K0]at e;done)
 simp only[K0]at e;obtain⟨as,e1,e⟩:=oX e;obtain⟨bs,e2,e⟩:=oX e;obtain⟨r,e3,e⟩:=oY e;cases e
 show wpAny _ _ (richCompare .Lt v u) _ _ _;exact EL (oQ I M (U.mono G) e1) (oQ I O (iy.mono G) e2) e3 (by omega) ⟨.bl r,H,I,rfl,q.one G (.bl r)⟩
end
section
variable {X:Cx}{a b:Expr}{p pos:Pos}
@[simp] def wg (f g:FE):FA:=λρ=>(f ρ).bind λx=>(g ρ).bind λy=>match x.1,y.1 with
 |.int i,.int j=>if -1000<=i/\i<=1000/\-1000<=j/\j<=1000 then some (dP i (j - i).toNat)else none
 |_,_=>none
def CL (hm:X.mg "range" = none)(h:JE X a f)(h':JE X b g)(hg:Gl X "range":=by rfl)(hs:starEach [a,b] X.env=[(false,eval a X.env),(false,eval b X.env)]:=by rfl)(M:starEach [b] X.env=[(false,eval b X.env)]:=by rfl):PI X tg (.Call (.Name "range" p) [a,b] [] pos) (NR X.K (wg f g)):=by
 refine PI.to (Cj hg hm (ah h (ah h' ak M) (by rw[hs,M])) hs M) λσ H R q=>?_;obtain⟨B,ρ,ds,sB,r,G,q⟩:=q;obtain⟨⟨x,xb⟩,ex,G⟩:=oX G;obtain⟨⟨y,yb⟩,O,G⟩:=oX G;match x,y,ex,O,G with
 |.int i,.int j,ex,O,G=>
  dsimp only at G;split at G
  ·rename_i hj;cases G
   refine⟨B,ρ,[.int i,.int j],sB,r,by simp[af,aj,ex,O],λvs H1 N1 x1 T=>?_⟩;cases T with
   |cons T U=>
    cases T
    cases U with
    |cons U i3=>
     cases U;cases i3
     exact⟨i,j,rfl,by omega,q _ H1 N1 x1 λ_=>x0 i (j - i).toNat⟩
  ·cases G
end
end DL
namespace DL
open PySem PySem.Spec PyProof.Rows L2
section
variable {X:Cx}
noncomputable def tL:D->D->OB
 |.tup xs,.tup ys=>if xs.isEmpty=true then some (.tup ys,false)else none
 |_,_=>none
def HS:dw X (binaryOp .Add) (rD X.K tL):=by
 intro ae s σ H x y v u Q I rx ry q;obtain⟨B,dx,dy,d,bb,sB,ix,iy,G,q⟩:=q;cases ix<;>try (cases G;done)
 cases iy<;>try (cases G;done)
 rename_i l vs ds h hl l' ws es h' hl';simp only[tL]at G;split at G
 ·rename_i hz;cases G
  cases rx
  cases ry
  obtain⟨its,r1,p1,_⟩:=I.tuple (bz sB h);obtain⟨M,r2,p2,_⟩:=I.tuple (bz sB h');have he:its.toArray.isEmpty=true:=by
   have e1:=hl.length;have e2:=r1.length;have e3:=List.isEmpty_iff.mp hz;rw[e3]at e1;cases its with
   |nil=>rfl
   |cons a b=>rw[e1]at e2;simp at e2
  obtain⟨⟨cls,dd,data,sl⟩,ho,hc,n,hd⟩:=id p1;obtain⟨⟨Rh,PX,data2,Ws⟩,O,T,n2,U⟩:=id p2;dsimp only at hc hd T U;subst hc;subst hd;subst T;subst U;exact concat_meets ⟨_,ho,rfl⟩ ⟨_,O,rfl⟩ noFill_tuple_add seq_tuple_add slot_tuple_add entry_tuple_add (args_tuple_add_2 _ _)
   (tuple_addW0 l l' its.toArray M.toArray n n2 dd PX sl Ws he) ⟨ho,O,⟨.ref l',H,I,rfl,q.one sB (.tup h' hl')⟩⟩
 ·cases G
@[simp] noncomputable def Bh:D->D->OB
 |.tup xs,.tup ys=>if xs.length+ys.length<=sizeLine then some (.tup (xs++ys),false)else none
 |_,_=>none
def HU (xs ys:LD)(z:xs.length+ys.length<=sizeLine):D2 rZ tL (.tup xs) (.tup ys)=some (.tup (xs++ys),false):=by
 cases xs with
 |nil=>
  have:rZ (.tup []) (.tup ys)=none:=if_neg (λh=>by cases h.2);show(match rZ (.tup []) (.tup ys) with|some z=>some z|none=>tL (.tup []) (.tup ys))=_;rw[this];rfl
 |cons a l=>
  have:rZ (.tup (a::l)) (.tup ys)=some (.tup (a::l++ys),false):=if_pos ⟨z,rfl⟩;show(match rZ (.tup (a::l)) (.tup ys) with|some z=>some z|none=>tL (.tup (a::l)) (.tup ys))=_;rw[this]
def EN:dw X (binaryOp .Add) (rD X.K Bh):=by
 refine iN (r:=rD X.K (D2 rZ tL)) (nn Ep HS) λx y H Q q=>?_;obtain⟨B,dx,T,d,bb,U,M,O,G,q⟩:=q;refine⟨B,dx,T,d,bb,U,M,O,?_,q⟩;cases M<;>try (cases G;done)
 cases O<;>try (cases G;done)
 rename_i l vs ds h hl l' ws es h' hl';simp only[Bh]at G;split at G
 ·rename_i hz;rw[HU _ _ hz];exact G
 ·cases G
end
@[simp] noncomputable def kh:D->Option eC
 |.int i=>some (.inl i)
 |.str x=>some (.inr x)
 |_=>none
def nY {K:Frag}{B:Hp}{v:V}{d:D}{k:eC}(i:Is K B v d)(e:kh d=some k):v=kV k:=by
 cases i<;>simp only[kh]at e<;>cases e<;>rfl
noncomputable def bO {κ:Type}[DecidableEq κ]:List κ->LD->κ->Option D
 |k'::ks,d::ds,k=>if k'=k then some d else bO ks ds k
 |_,_,_=>none
theorem qg {κ:Type}[DecidableEq κ]{K:Frag}{B:Hp}(k:κ):∀ {ks:List κ}{vs:LV}{ds:LD},ks.length=vs.length->IsL K B vs ds ->
  (∃v d,jM (ks.zip vs) k=some v/\bO ks ds k=some d/\Is K B v d)∨(jM (ks.zip vs) k=none/\bO ks ds k=none)
 |[],vs,ds,_,_=>.inr ⟨by cases vs<;>rfl,by cases ds<;>rfl⟩
 |k'::ks,[],_,h,_=>by simp at h
 |k'::ks,v::vs,_,h,.cons i is=>by
  rw[zip_cons_cons];unfold bO;by_cases e:k'=k
  ·rw[if_pos e];exact .inl ⟨v,_,lZ (p:=(k',v)) e,rfl,i⟩
  ·rw[if_neg e,ma (p:=(k',v)) e];exact qg k (by simpa using h) is
section
variable {X:Cx}{o e i:Expr}{pos:Pos}
@[simp] def EO:D->D->OB
 |.dk ks vs,y=>(kh y).map λk=>((bO ks vs k).getD .non,false)
 |_,_=>none
def EQ {di cx:Pos}{fo fe:FE}(hu:X.A.units+1<cLine)(ho:JE X o fo)(he:JE X e fe)(m:M1 X o "get" di e cx):JE X (.Call (.Attribute o "get" di) [e] [] cx) (f2 EO fo fe):=by
 refine PE.to (xf hu ho he m) λσ H Q q=>?_;obtain⟨B,ρ,d,bb,sB,r,G,q⟩:=q;obtain⟨x,ex,G⟩:=oX G;obtain⟨y,ey,G⟩:=oX G;refine⟨B,ρ,x.1,x.2,sB,r,ex,λv H1 N1 O i1 ff=>?_⟩;obtain⟨xd,xb⟩:=x;cases i1 with
 |@dk a ks vs ds ob h hl hs=>
  simp only[EO]at G;obtain⟨k,hk,G⟩:=oY G;cases G
  refine⟨a,rfl,.inl ⟨_,_,.inl (O.nh _ _ h)⟩,N1,ρ,y.1,y.2,O.nh,r.mono O.bn,ey,λv2 H2 N2 M i2 _=>?_⟩;have hv:=nY i2 hk;subst hv;refine⟨jM (ks.zip vs) k,.inl ⟨_,k,_,.inl (M.nh _ _ (M.bn _ _ h)),rfl,rfl⟩,?_⟩;have T:=hs.mono M.bn;rcases qg k hl T with⟨v,d',U,e2,i3⟩|⟨U,e2⟩
  ·rw[U];rw[e2]at q;exact(q.into (O.trans M)).one M.nh i3
  ·rw[U];rw[e2]at q;exact(q.into (O.trans M)).one M.nh .non
 |_=>simp[EO]at G
@[simp] def D5:D->D->OB
 |.dk ks vs,y=>(kh y).bind λk=>(bO ks vs k).map λd=>(d,false)
 |_,_=>none
def wh {U fi:FE}(hu:X.A.units+1<cLine)(ho:JE X o U)(hi:JE X i fi)(hs:Lg i):JE X (.Subscript o i pos) (f2 D5 U fi):=by
 refine PE.to (GX hu ho hi hs) λσ H Q q=>?_;obtain⟨B,ρ,d,bb,sB,r,G,q⟩:=q;obtain⟨x,ex,G⟩:=oX G;obtain⟨y,ey,G⟩:=oX G;refine⟨B,ρ,x.1,x.2,sB,r,ex,λv H1 N1 O i1 ff=>?_⟩;obtain⟨xd,xb⟩:=x;cases i1 with
 |@dk a ks vs ds ob h hl T=>
  simp only[D5]at G;obtain⟨k,hk,G⟩:=oX G;obtain⟨d0,hd,G⟩:=oY G;cases G
  refine⟨N1,ρ,y.1,y.2,O.nh,r.mono O.bn,ey,λv2 H2 N2 M i2 _=>?_⟩;have hv:=nY i2 hk;subst hv;rcases qg k hl (T.mono M.bn)with⟨v,d',e1,e2,i3⟩|⟨_,e2⟩
  ·rw[hd]at e2;cases e2
   exact⟨a,v,rfl,.inl ⟨_,k,_,.inl (M.nh _ _ (M.bn _ _ h)),rfl,e1.symm⟩,(q.into (O.trans M)).one M.nh i3⟩
  ·rw[hd]at e2;cases e2
 |_=>simp[D5]at G
@[simp] def LQ:D->D->OB
 |y,.dk ks vs=>(kh y).map λk=>(.bl (bO ks vs k).isSome,false)
 |_,_=>none
@[simp] def qh:D->D->OB
 |y,.dk ks vs=>(kh y).map λk=>(.bl (!(bO ks vs k).isSome),false)
 |_,_=>none
def tM {κ:Type}[DecidableEq κ]{K:Frag}{B:Hp}{k:κ}{ks:List κ}{vs:LV}{ds:LD}(hl:ks.length=vs.length)(hs:IsL K B vs ds):(jM (ks.zip vs) k).isSome=(bO ks ds k).isSome:=by
 rcases qg k hl hs with⟨v,d,G,e2,_⟩|⟨G,e2⟩
 ·rw[G,e2];rfl
 ·rw[G,e2];rfl
def CM {fi T:FE}(hu:X.A.units+1<cLine)(hi:JE X i fi)(ho:JE X o T)(hm:behindInMarks .NotIn o=false:=by first|exact iZ _ (by decide) (by decide)|rfl):JT X (.Compare i [.NotIn] [o] pos) (bj (f2 qh fi T)):=by
 refine PT.to (K2 (Cz hu hi ho) hm) λσ H Q q=>?_;obtain⟨B,ρ,d,bb,U,r,G,q⟩:=uH q;obtain⟨y,ey,G⟩:=oX G;obtain⟨x,ex,G⟩:=oX G;refine⟨B,ρ,y.1,y.2,U,r,ey,λv2 H1 N1 M i2 _=>⟨N1,ρ,x.1,x.2,M.nh,r.mono M.bn,ex,λv H2 N2 O i1 ff=>?_⟩⟩;obtain⟨xd,xb⟩:=x;cases i1 with
 |@dk a ks vs ds ob h hl hs=>
  simp only[qh]at G;obtain⟨k,hk,G⟩:=oY G;cases G
  have hv:=nY i2 hk;subst hv;refine⟨a,jM (ks.zip vs) k,rfl,.inl ⟨_,k,_,.inl (O.nh _ _ h),rfl,rfl⟩,?_⟩;rw[tM hl hs];exact(q.into (M.trans O)).one O.nh (.bl _)
 |_=>simp[qh]at G
end
noncomputable def dG {κ:Type}[DecidableEq κ](ks:List κ)(k:κ):List κ:=if k∈ks then ks else ks++[k]
noncomputable def dH {κ α:Type}[DecidableEq κ](ks:List κ)(xs:List α)(k:κ)(x:α):List α:=if k∈ks then List.zipWith (λk' G=>if k'=k then x else G) ks xs else xs++[x]
theorem Bi {κ:Type}[DecidableEq κ](k:κ):∀ {ks:List κ}{vs:LV},ks.length=vs.length->((ks.zip vs).any λkv=>decide (kv.1=k))=decide (k∈ks)
 |[],_,_=>by simp
 |k'::ks,[],h=>by simp at h
 |k'::ks,v::vs,h=>by
  have G:=Bi k (ks:=ks) (vs:=vs) (by simpa using h);rw[zip_cons_cons,any_cons,G];by_cases e:k'=k
  ·simp[e]
  ·have M:¬k=k':=λz=>e z.symm;simp[e,M]
theorem Bj {κ:Type}[DecidableEq κ](k:κ)(v:V):∀(ks:List κ)(vs:LV),(ks.zip vs).map (λkv=>if kv.1=k then (kv.1,v)else kv)=ks.zip (List.zipWith (λk' G=>if k'=k then v else G) ks vs)
 |[],_=>by simp
 |_::_,[]=>by simp
 |k'::ks,w::vs=>by
  rw[zip_cons_cons,uY,Bj k v ks vs,zipWith_cons_cons,zip_cons_cons];by_cases e:k'=k
  ·simp[e]
  ·simp[e]
def oR {κ:Type}[DecidableEq κ]{ks:List κ}{vs:LV}(hl:ks.length=vs.length)(k:κ)(v:V):lY (ks.zip vs) k v=(dG ks k).zip (dH ks vs k v):=by
 unfold lY dG dH;rw[Bi k hl];by_cases h:k∈ks
 ·rw[if_pos (sv h),if_pos h,if_pos h,Bj]
 ·rw[if_neg (by simpa using h),if_neg h,if_neg h,List.zip_append hl];rfl
def mu {κ α:Type}[DecidableEq κ]{ks:List κ}{xs:List α}(hl:ks.length=xs.length)(k:κ)(x:α):(dG ks k).length=(dH ks xs k x).length:=by
 unfold dG dH;split<;>simp[hl]
theorem IsL.zipWith {κ:Type}[DecidableEq κ]{K:Frag}{B:Hp}{k:κ}{v:V}{d:D}(i:Is K B v d):∀ {ks:List κ}{vs:LV}{ds:LD},IsL K B vs ds->IsL K B (List.zipWith (λk' G=>if k'=k then v else G) ks vs) (List.zipWith (λk' G=>if k'=k then d else G) ks ds)
 |[],_,_,_=>by simpa using IsL.nil
 |_::_,_,_,.nil=>by simpa using IsL.nil
 |k'::ks,_,_,.cons h t=>by
  rw[zipWith_cons_cons,zipWith_cons_cons];refine .cons ?_ (IsL.zipWith i t);by_cases e:k'=k
  ·rw[if_pos e,if_pos e];exact i
  ·rw[if_neg e,if_neg e];exact h
def IsL.put {κ:Type}[DecidableEq κ]{K:Frag}{B:Hp}{k:κ}{v:V}{d:D}(i:Is K B v d){ks:List κ}{vs:LV}{ds:LD}(h:IsL K B vs ds):IsL K B (dH ks vs k v) (dH ks ds k d):=by
 unfold dH;split
 ·exact h.zipWith i
 ·exact h.append (.cons i .nil)
section
variable {K:Frag}{E:Ends}{σ:St}{H:Hp}
noncomputable def Bk (i:Nat):FS:=λρ=>some (.nx (ρ.set i (some (.dk [] [],true))))
noncomputable def ER (i:Nat):FS:=λρ=>some (.nx (ρ.set i (some (.dt [] [],true))))
def eB.newBox (s:eB K B0 H0 N H σ ρ)(i:Nat)(hp:H p=none)(hb:∀C,Bx K C ob dd):eB K B0 H0 (upd N p ob) (upd H p ob) (σ.set i (some (.ref p))) (ρ.set i (some (dd,true))):=by
 have x:=Ext.laid (o:=ob) s.ext.nh hp;have s1:=s.grow x;have G:N p=none:=s.ext.nh.free hp;have M:¬own σ ρ p:=λz=>by obtain⟨T,⟨q,_⟩,_⟩:=s.owned z;rw[G]at q;cases q
 have c:bc (dz N (own σ ρ)) (dz (upd N p ob) (λb=>own σ ρ b∨b=p)):=dL λb u e q=>⟨x.bn _ _ e,λz=>z.elim q λz=>by subst z;rw[G]at e;cases e⟩;refine s1.bindOwn aC (s.ext.hh.free hp) (λj e q z=>M ⟨j,e,q,z⟩) (λj e _ q=>?_) (λj e _ q=>?_) (hb _)
 ·obtain⟨w,h1,h2⟩:=s.sh j e q;exact⟨w,h1,h2.mono c⟩
 ·obtain⟨O,o',h1,h2,_,h4⟩:=s.ow j e q;exact⟨O,o',h1,x.bn _ _ h2,h4.mono c⟩
def ES (q:lV K (Bk i) E σ H):wS DV (ja i) E σ H:=by
 obtain⟨B0,H0,ρ,r,⟨N,s⟩,e,p⟩:=q;cases e
 exact λa ob ha=>p _ _ ⟨_,s.newBox i ha λ_=>.dk (ks:=[]) (vs:=[]) rfl .nil⟩
def ET (q:lV K (ER i) E σ H):wS DW (ja i) E σ H:=by
 obtain⟨B0,H0,ρ,r,⟨N,s⟩,e,p⟩:=q;cases e
 exact λa ha=>p _ _ ⟨_,s.newBox i ha λ_=>.dt (ks:=[]) (vs:=[]) rfl .nil⟩
def yf (i:Nat)(M O:FE):FS:=λρ=>match ρ[i]? with
 |some (some (.dk ks vs,true))=>(O ρ).bind λv=>(M ρ).bind λk=>(kh k.1).bind λG=>if bx v.1=true/\ks.length<sizeLine then some (.nx (ρ.set i (some (.dk (dG ks G) (dH ks vs G v.1),true))))else none
 |_=>none
def EU {i:Nat}{G M:FE}(q:lV K (yf i G M) E σ H):AA (oB i) (tD K G) (tD K M) E σ H:=by
 obtain⟨B0,H0,ρ,r,⟨N,s⟩,e,p⟩:=q;unfold yf at e;split at e
 ·rename_i ks ds ei;obtain⟨v,T,e⟩:=oX e;obtain⟨k,ek,e⟩:=oX e;obtain⟨U,hk,e⟩:=oX e;split at e
  ·rename_i hx;cases e
   refine⟨N,ρ,v.1,v.2,s.ext.nh,s.rep,T,λv1 H1 N1 x1 i1 _=>?_⟩;have s1:=s.grow x1;obtain⟨a,o,h1,h2,h3,h4⟩:=s1.ow i _ ei;refine⟨.ref a,h1,N1,ρ,k.1,k.2,s1.ext.nh,s1.rep,ek,λv2 H2 N2 O i2 _=>?_⟩;have s2:=s1.grow O;have hv:=nY i2 hk;subst hv;obtain⟨a',o',k1,k2,k3,k4⟩:=s2.ow i _ ei;rw[h1]at k1;cases k1
   cases k4 with
   |@dk ks vs ds hl h5 ob=>
    refine⟨a,rfl,.inl ⟨_,U,_,s2.ext.nh _ _ k2,rfl,?_,λWt=>?_⟩⟩
    ·rw[length_zip];omega
    ·rw[oR hl];exact p σ _ ⟨_,s2.writeB ei h1 (.dk (mu hl _ _) (h5.put (s2.flat (i1.mono O.bn) hx.1)))⟩
  ·cases e
 ·cases e
end
section
variable {X:Cx}{pos:Pos}{e k:Expr}
def Bl (G:X.N.Nodup)(hi:X.N[i]? = some x:=by rfl)(hx:D9 X.env.scope x:=by first|exact Or.inl rfl|exact Or.inr rfl)(hs:swapsWith (.Dict [] [] dp) (some (.Name x p)) pos.line X.env=pure false:=by rfl)
  (hf:X.fn x=true∨X.env.scope.names.lookup x=some .local:=by first|exact .inl rfl|exact .inr rfl):JS X (.Assign [.Name x p] (.Dict [] [] dp) pos) (Bk i):=PS.to (pz G hi hx DX hs hf) λ_ _ _ q=>ES q
def HV (G:X.N.Nodup)(hi:X.N[i]? = some x:=by rfl)(hx:D9 X.env.scope x:=by first|exact Or.inl rfl|exact Or.inr rfl)(hs:swapsWith (.Dict [] [] dp) (some (.Name x p)) pos.line X.env=pure false:=by rfl)
  (hf:X.fn x=true∨X.env.scope.names.lookup x=some .local:=by first|exact .inl rfl|exact .inr rfl):JS X (.Assign [.Name x p] (.Dict [] [] dp) pos) (ER i):=PS.to (pz G hi hx DY hs hf) λ_ _ _ q=>ET q
def HW (hu:X.A.units+1<cLine)(hv:JE X e fv)(hk:JE X k fk)(O:X.N[i]? = some y:=by rfl)(G:Kx X.env.scope y:=by first|exact Or.inl rfl|exact Or.inr (Or.inl rfl)|exact Or.inr (Or.inr rfl))(hd:(y == ("__debug__" : Str))=false:=by decide)
  (M:(y == ("__classdict__" : Str))=false:=by decide) (hs:swapsWith e (some (.Subscript (.Name y py) k pt)) pos.line X.env=pure false:=by rfl):JS X (.Assign [.Subscript (.Name y py) k pt] e pos) (yf i fk fv) :=
 PS.to (uA hu (px O G hd M) hk hv hs) λ_ _ _ q=>EU q
end
section
variable {prog:Program}{w:World}{A:Around}{E:QV}{s:Shared}
abbrev LR (h:Heap)(z TI TO G:Addr)(f:Bool):Prop:=h.get? z=some { cls:=.type "zip",dict:=none,data:=.fields #[rawInt G,.bool f,.bool false,.ref TI,.ref TO],slots:=#[] }
end
def SD (k1 k2:Bool)(z TI TO M O T U S:Addr)(i:Nat)(h:Heap):Prop :=
 IsPair h TI (.ref M) (.ref O)/\AT k1 h M T i/\AT k2 h O U i/\((IsZip h z TI TO .none/\∃a b,IsPair h TO a b)∨∃G f oT oO,LR h z TI TO G f/\h.get? G=some oT/\G∉[z,TI,TO,M,O]/\G≠S/\h.get? TO=some oO)
section
variable {prog:Program}{w:World}{A:Around}{E:QV}{s:Shared}{k1 k2:Bool}{z TI TO i1 i2 l1 l2 S:Addr}{j:Nat}{xs ys:AV}
end
def qi (h:H a=none):bc H (upd H a o):=λb u e=>by rw[aI (bf e h)];exact e
end DL
namespace DL
open PySem PySem.Spec PyProof.Rows
def wj:typeLookup (.type "list") "keys" = pure none:=by rw[typeLookup_type,builtinLookup_eq_fast];kernel_rfl
def CN 
  (hx:s.heap.get? a=some { cls:=.type "list",dict:=none,data:=.seq xs k,slots:=sl }) (O:A.handled=none)
  (h:∀h' tk,(∀b o,s.heap.get? b=some o->h'.get? b=some o)->Q none { s with heap:=h',toks:=tk }):
  wpAny (model prog w) A (getAttr? (.ref a) "keys") Q E s:=by
 obtain⟨hp,g,d,tk,os⟩:=s;have M:∀G,(⟨hp,g,d,G,os⟩:Shared).TypeIs (.ref a) "list":=λ_=>⟨_,hx,rfl⟩;have f1:=sub_AttributeError;have f3:=slot_list_getattribute.lookup;have f4:=slot_list_getattribute.bind (.ref a);have f5:=am_list_getattr_none;unfold getAttr? getAttrBy? getAttrBy;repeat (any_goals (first|assumption|exact M _|((with_reducible show wpAny _ _ (call (Value.builtin "list.__getattribute__") _ _) _ _ _);refine call_meets slot_list_getattribute (M _) am_entry_list_getattribute (PySem.F.args_list_getattribute_2 _ _) (meets_getattribute_miss_list a xs k sl "keys" _ wj (by decide) (by decide)) ⟨hx,O,λh' G e hx'=>?_⟩)|wp_step))
 obtain⟨t',T,he⟩:=hx'.there;show wpAny _ _ (getattributeRaised _ _ _ _ _ _ _) _ _ _;unfold getattributeRaised;repeat (any_goals (first|assumption|wp_step))
 exact h _ _ hx'.of.keeps
end DL
namespace DL
open PySem PySem.Spec PyProof.Rows L2
def iQ:LD->Option (List (eC×D))
 |[]=>some []
 |.tup [k,v]::r=>(kh k).bind λG=>(iQ r).map λl=>(G,v)::l
 |_=>none
noncomputable def qj (a:LK×LD)(p:eC×D):LK×LD:=(dG a.1 p.1,dH a.1 a.2 p.1 p.2)
noncomputable def ca (l:List (eC×D)):LK×LD:=l.foldl qj ([],[])
def qk (l:List (eC×D))(p:eC×D):ca (l++[p])=qj (ca l) p:=by unfold ca;rw[foldl_append];rfl
theorem ql:∀ {ds:LD}{l:List (eC×D)},iQ ds=some l->l.length=ds.length
 |[],l,h=>by simp[iQ]at h;subst h;rfl
 |d::r,l,h=>by
  unfold iQ at h;split at h
  ·rename_i h0;cases h0
  ·rename_i k v G h0;cases h0
   obtain⟨M,_,h⟩:=oX h;obtain⟨O,h1,rfl⟩:=oY h;simp[ql h1]
  ·cases h
theorem qm:∀ {ds:LD}{l:List (eC×D)}{i:Nat}{d:D},iQ ds=some l->ds[i]? = some d->∃k v G,d=.tup [k,v]/\kh k=some G/\l[i]? = some (G,v)
 |[],l,i,d,_,h=>by simp at h
 |d0::r,l,i,d,h,hi=>by
  unfold iQ at h;split at h
  ·rename_i h0;cases h0
  ·rename_i k v M h0;cases h0
   obtain⟨G,h2,h⟩:=oX h;obtain⟨O,h1,rfl⟩:=oY h;cases i with
   |zero=>simp at hi;subst hi;exact⟨k,v,G,rfl,h2,rfl⟩
   |succ i=>simp only[List.getElem?_cons_succ]at hi ⊢;exact qm h1 hi
  ·cases h
def EV (l:List (eC×D)):∀a:LK×LD,a.1.length=a.2.length->(l.foldl qj a).1.length=(l.foldl qj a).2.length/\(l.foldl qj a).1.length<=a.1.length+l.length:=by
 induction l with
 |nil=>intro a h;exact⟨h,vT _⟩
 |cons p l G=>
  intro a h;have h1:(qj a p).1.length<=a.1.length+1:=by
   show(dG _ _).length<=_;unfold dG;split<;>simp
  have:=G (qj a p) (mu h _ _);rw[foldl_cons,vE];exact⟨this.1,by omega⟩
def CO (l:List (eC×D)):(ca l).1.length=(ca l).2.length/\(ca l).1.length<=l.length:=by
 have:=EV l ([],[]) rfl;exact⟨this.1,vR this.2 (by simp)⟩
def tN:entryFor table "dict.update.loop" = some Builtin.«dict.update.loop»:=entryFor_of_tree (by kernel_rfl)
def kQ:plainId "dict.update.loop" = true:=by decide +kernel
section
variable {X:Cx}{ae:AO}{σ:St}{B H0:Hp}{A:Around}{R:Result->Shared->Prop}{it l d:Addr}{us:LV}{ds:LD}{jw:List (eC×D)}
def Ab (hA:A.handled=none)(nl:l≠it)(nd:d≠it)(hl:fT X.K B l us)(il:IsL X.K B us ds)(hp:iQ ds=some jw)
  (hR:∀G N vs ob s',Inv X ae σ (upd G d (.dK ((ca jw).1.zip vs) ob)) s'->G d=none->Ext B N H0 G->(ca jw).1.length=vs.length->IsL X.K N vs (ca jw).2->R (.ok (.ret .none)) s'):
  ∀(k i:Nat)(tk:Nat)(s:Shared)(G N:Hp)(vs:LV)(ob:Obj),ds.length - i=k->i<=ds.length->Inv X ae σ (upd G d (.dK ((ca (jw.take i)).1.zip vs) ob)) s->G d=none->Ext B N H0 G->mU X ae (upd G d (.dK ((ca (jw.take i)).1.zip vs) ob)) it ->
   s.heap.IsListIter it l i->(ca (jw.take i)).1.length=vs.length->IsL X.K N vs (ca (jw.take i)).2 ->
   codeAny (model X.prog X.w) A (.builtin "dict.update.loop" ⟨[.ref d,.ref it,.int i tk,.none],[]⟩) R s:=by
 have n1:=il.length;have n2:=ql hp;intro k;induction k with
 |zero=>
  intro i tk s G N vs ob hk hi I hc M fp st hz hv;have M0:i=ds.length:=by omega
  have sm:bc B (upd G d (.dK ((ca (jw.take i)).1.zip vs) ob)):=(M.bn.trans M.nh).trans (qi hc);obtain⟨its,r1,p1,z1⟩:=I.list (sm.seq hl);have e1:=r1.length;refine codeAny_builtin tN ?_;rw[Around.under_plainId kQ _];show wpAny _ A.in1 (pyNext (.ref it)>>=_) _ _ s;refine wX (wpAny_pyNext_list_end (A:=A.in1) hA st p1.isList (by simp;omega) λh' Ko=>?_);show wpAny _ _ (Builtin.Dict.addKeywords d []>>=_) _ _ _;refine wX (wY (wY ?_));have I1:=ml (t':=s.toks) (h':=h') (ch:=[it]) I (λb hb=>by rw[uT hb];exact fp) λb o hb e=>Ko b o (λq=>hb (by simp[q])) e;rw[M0,←n2,take_length]at I1 hz hv;exact hR G N vs ob _ I1 hc M hz hv
 |succ k ih=>
  intro i tk s G N vs ob hk hi I hc M fp st hz hv;have U:i<ds.length:=by omega
  have sm:bc B (upd G d (.dK ((ca (jw.take i)).1.zip vs) ob)):=(M.bn.trans M.nh).trans (qi hc);obtain⟨its,r1,p1,z1⟩:=I.list (sm.seq hl);obtain⟨kd,vd,O,ed,ek,el⟩:=qm hp (vU U);obtain⟨x,hx,ix⟩:=il.get (vU U);rw[ed]at ix;cases ix with
  |@tup T xs _ hT hxs=>
   cases hxs with
   |cons ik r=>
    cases r with
    |cons iv r=>
     cases r
     rename_i xk xv;have Wu:=nY ik ek;subst Wu;obtain⟨u,hu,ru⟩:=r1.get hx;cases (show u=Value.ref T from ru)
     refine codeAny_builtin tN ?_;rw[Around.under_plainId kQ _];show wpAny _ A.in1 (pyNext (.ref it)>>=_) _ _ s;refine wX (wpAny_pyNext_list_item (A:=A.in1) st p1.isList (x:=.ref T) (by simpa using hu) λh' OY hs=>?_);have I1:=ml (t':=s.toks) (h':=h') (ch:=[it]) I (λb hb=>by rw[uT hb];exact fp) λb o hb e=>hs.extBut b o (λq=>hb (by simp[q])) e;obtain⟨ps,r2,p2,z2⟩:=I1.tuple (bz sm hT);obtain⟨uk,uv,rfl,rk,rv⟩:=r2.two;have Wv:Shared.TypeIs { s with heap:=h' } (.ref T) "tuple":=by obtain⟨o,e,c,_⟩:=p2;exact⟨o,e,c⟩
     dsimp only;refine wX (wpAny_holding (wX (wpAny_tryCatch ?_)));unfold Builtin.Dict.pairItems;refine wX (wpAny_typeOf Wv ?_);obtain⟨oT,eT,cT,nT,dT⟩:=p2;rw[if_pos (by decide)];refine wX (wpAny_seqItems eT dT (wY ?_));show wpAny _ _ (holding [uk,uv] (dictSet d uk uv)) _ _ _;obtain⟨zz,TH,Ww,TM,dd⟩:=p8 I1.hok (a:=d) aC;have Wx:Ww.length<=sizeLine:=by rw[←TM.length];exact zz
     have nk:((ca (jw.take i)).1.zip vs).length<sizeLine:=by
      have a1:=(CO (jw.take i)).2;have a2:=z1;rw[length_take]at a1;rw[length_zip];omega
     refine wpAny_holding (wpAny_dictSet_pairs (hsz:=Wx) (p6 rk) dd λh2 PX PY=>?_);have Jq:(lY ((ca (jw.take i)).1.zip vs) O xv).length<=sizeLine:=by have:=jR ((ca (jw.take i)).1.zip vs) O xv;omega
     obtain⟨TN,MQ⟩:∃q,h2.get? d=some q:=let ⟨q,_,_,hq,_⟩:=PX;⟨q,hq⟩;have I2:=u7 (t':=s.toks+1) I1 (a:=d) (ob:=.dK (lY ((ca (jw.take i)).1.zip vs) O xv) TN) (by rw[aC];exact True.intro) PY ⟨_,MQ⟩ (DT Jq TH (TM.put O rv) PX MQ);rw[G4,oR hz]at I2;have et:jw.take (i+1)=jw.take i++[(O,vd)]:=by rw[take_add_one,el];rfl
     have TQ:(ca (jw.take (i+1))).1=dG (ca (jw.take i)).1 O:=by rw[et,qk];rfl
     have Wy:(ca (jw.take (i+1))).2=dH (ca (jw.take i)).1 (ca (jw.take i)).2 O vd:=by rw[et,qk];rfl
     refine wY ⟨plainId_quiet kQ _,?_⟩;refine ih (i+1) 0 _ G N (dH (ca (jw.take i)).1 vs O xv) TN (by omega) U (by rw[TQ];exact I2) hc M ?_ ?_ ?_ ?_
     ·obtain⟨f0,f1⟩:=fp;refine⟨?_,f1⟩;rw[aI nd.symm]at f0 ⊢;exact f0
     ·exact OY.at λo e=>(PY.2 it nd.symm).trans e
     ·rw[TQ];exact mu hz _ _
     ·rw[Wy];exact hv.put (iv.mono M.bn)
end
@[simp] def j9:LD->OB
 |[.lst ds]=>(iQ ds).map λG=>(.dk (ca G).1 (ca G).2,false)
 |_=>none
def LW:bootBuiltins "dict" = some (.type "dict"):=by decide +kernel
section
variable {X:Cx}
def LX (T:X.calm=true):bW X (.type "dict") (AD X.K j9):=by
 intro ae s σ H xs us Q I r h;obtain⟨B,XU,d0,bb,sB,i0,O,q⟩:=h;cases i0 with
 |nil=>simp[j9]at O
 |cons i1 i2=>
  cases i2 with
  |cons _ _=>cases i1<;>simp[j9]at O
  |nil=>
   cases i1<;>try (simp[j9]at O;done)
   rename_i l ws ds hl il;simp only[j9]at O;obtain⟨U,hp,O⟩:=oY O;cases O
   obtain⟨u,rfl,rx⟩:=gI r;cases rx
   have hA:X.A.handled=none:=I.ok.hd T;refine callType_codes (Q₁:=λobj M=>obj=.ref s.heap.objs.size/\M={ s with heap:=s.heap.push { cls:=.type "dict",data:=.dict #[] } }) PySem.F.kt_called_dict (PySem.F.kt_typeCall_dict_1 _) PySem.F.entry_dict_init (kt_code_dict_new _ ⟨rfl,rfl⟩) ?_;rintro obj M ⟨rfl,rfl⟩;have I1:Inv X ae σ (upd H s.heap.objs.size (.dK [] { cls:=.type "dict",data:=.dict #[] })) { s with heap:=s.heap.push { cls:=.type "dict",data:=.dict #[] } }:=I.laid (t':=s.toks) (λb o e=>vZ _ e) (vT _) (xc s.heap I.big);have TR:H s.heap.objs.size=none:=I.fresh;have hT:Shared.TypeIs { s with heap:=s.heap.push { cls:=.type "dict",data:=.dict #[] } } (.ref s.heap.objs.size) "dict":=⟨_,vY _ rfl,rfl⟩;refine⟨hT,PySem.F.args_dict_init_2 _ _,?_⟩;unfold Builtin.«dict.__init__»;refine wX ?_;unfold Builtin.Dict.selfAndRest;refine wX (wpAny_notOrdered_dict hT ?_);show wpAny _ _ (pure (s.heap.objs.size,[Value.ref l])) _ _ _;refine wY ?_;show wpAny _ _ (Builtin.Dict.updateFrom "dict.__init__" s.heap.objs.size (.ref l) [] .none) _ _ _;unfold Builtin.Dict.updateFrom;have sm:bc B (upd H s.heap.objs.size (.dK [] { cls:=.type "dict",data:=.dict #[] })):=sB.trans (qi TR);obtain⟨its,r1,p1,z1⟩:=I1.list (sm.seq hl);have pl:=p1.isList;obtain⟨ol,nl,G,cl,TU,dl⟩:=p1;have TV:Shared.TypeIs { s with heap:=s.heap.push { cls:=.type "dict",data:=.dict #[] } } (.ref l) "list":=⟨ol,G,cl⟩;refine wX (wpAny_typeOf TV ?_);rw[if_pos (by decide)];obtain⟨oc,od,oo,os⟩:=ol;simp only at cl TU dl;subst cl TU dl;refine wX (CN G (by exact hA) λh' tk hk=>?_);dsimp only[Option.isNone_none];rw[if_pos rfl];have I2:Inv X ae σ (upd H s.heap.objs.size (.dK [] { cls:=.type "dict",data:=.dict #[] })) { s with heap:=h',toks:=tk }:=I1.kept (t':=tk) hk;refine wX (wpAny_rule ?_);refine wX (wpAny_pyIter_list (items:=its.toArray) ⟨_,hk _ _ G,rfl,nl,rfl⟩ ?_);have I3:Inv X ae σ (upd H s.heap.objs.size (.dK [] { cls:=.type "dict",data:=.dict #[] })) { s with heap:=h'.push { cls:=.type "list_iterator",data:=.fields #[.ref l,.int 0 0] },toks:=tk }:=I2.kept (t':=tk) λb o e=>vZ _ e;have ld:s.heap.objs.size<h'.objs.size:=vX (hk _ _ (vY _ rfl));have ll:l<h'.objs.size:=vX (hk _ _ G);refine wY ⟨plainId_quiet kQ _,Ab (A:=X.A.in1) (B:=B) (H0:=H) (l:=l) (d:=s.heap.objs.size) (it:=h'.objs.size) hA (vS ll) (vS ld) hl il hp (λHc N vs ob s' I' OG xt hz hv=>?_) _ 0 0 _ H B [] _ rfl (uN _) I3 TR (Ext.refl sB) (I2.fpOk (vT _) (I2.hok.fresh (vT _))) ⟨_,vY _ rfl,rfl,rfl⟩ rfl .nil⟩;refine⟨rfl,.ref s.heap.objs.size,_,I',rfl,?_⟩;have x3:=xt.trans (Ext.laid (o:=.dK ((ca U).1.zip vs) ob) xt.nh OG);exact q _ _ _ x3 (.dk aC hz (hv.mono (Ext.laid (o:=.dK ((ca U).1.zip vs) ob) xt.nh OG).bn)) (by simp)
end
def D6 (h:n+40<cLine):n+1<cLine:=by omega
@[simp] noncomputable def LY:D->D->OB
 |.lst ds,.int k=>if 0<=k/\ds.length*k.toNat<=1000/\k<=1000 then some (.lst (List.replicate k.toNat ds).flatten,true)else none
 |_,_=>none
@[simp] def CP (fa G:FE):FE:=λρ=>(fa ρ).bind λx=>if x.2=true then (G ρ).bind λy=>LY x.1 y.1 else none
theorem IsL.rep {K:Frag}{H:Hp}{vs:LV}{ds:LD}(h:IsL K H vs ds):∀k:Nat,IsL K H (List.replicate k vs).flatten (List.replicate k ds).flatten
 |0=>.nil
 |k+1=>by rw[replicate_succ,replicate_succ,flatten_cons,flatten_cons];exact h.append (IsL.rep h k)
section
variable {X:Cx}{a b:Expr}{pos:Pos}
def EW {fa fb:FE}(ha:JE X a fa)(hb:JE X b fb):JE X (.BinOp a .Mult b pos) (CP fa fb):=by
 refine PE.to (Jy Le ha hb) λσ H Q q=>?_;obtain⟨B,ρ,d,bb,sB,r,G,q⟩:=q;obtain⟨x,ex,G⟩:=oX G;split at G
 ·rename_i hx;obtain⟨⟨yd,yb⟩,ey,G⟩:=oX G;refine⟨B,ρ,x.1,x.2,sB,r,ex,λv H1 N1 T i1 fr=>⟨N1,ρ,yd,yb,T.nh,r.mono T.bn,ey,λu H2 N2 M i2 U=>?_⟩⟩;obtain⟨a0,vs,ds,rfl,e1,h0,h1,il⟩:=fr hx;rw[e1]at G;clear U;cases i2<;>try (simp[LY]at G;done)
  rename_i k;simp only[LY]at G;split at G
  ·rename_i hk;cases G
   have hl:=il.length;refine⟨a0,k,vs,rfl,rfl,M.nh _ _ (M.bn _ _ h1),by omega,by omega,by rw[hl];exact vR hk.2.1 (by decide:(1000:Nat)<=sizeLine),λp hp=>?_⟩;have x3:=Ext.laid (o:=.lst (List.replicate k.toNat vs).flatten) M.nh hp;have O:=((il.mono M.bn).mono x3.bn).rep k.toNat;exact q _ _ _ ((T.trans M).trans x3) (.lst (fT.of aC) O) λ_=>⟨_,_,_,rfl,rfl,(T.trans M).hh.free hp,aC,O⟩
  ·cases G
 ·cases G
end
def iE:LD->Option LK
 |[]=>some []
 |d::ds=>(kh d).bind λk=>(iE ds).map (k :: ·)
theorem Ac {K:Frag}{B:Hp}:∀ {vs:LV}{ds:LD}{ks:LK},IsL K B vs ds->iE ds=some ks->vs=ks.map kV
 |_,_,ks,.nil,e=>by simp[iE]at e;subst e;rfl
 |_,_,ks,.cons i is,e=>by
  simp only[iE]at e;obtain⟨k,h1,e⟩:=oX e;obtain⟨r,h2,rfl⟩:=oY e;rw[nY i h1,Ac is h2];rfl
@[simp] def EX (M:FE)(fa:FA):FE:=λρ=>(M ρ).bind λx=>(fa ρ).bind λds=>match x.1 with
 |.dt G vs=>if ds.length<=sizeLine then (iE ds).map λk=>((bO G vs k).getD .non,false)else none
 |_=>none
section
variable {X:Cx}{o:Expr}{es:QD}{pos:Pos}
def EY {di cx M:Pos}{O:Nat}{fo:FE}{fa:FA}(hu:X.A.units+1<cLine)(ho:JE X o fo)(ha:JA X es fa)(m:M1 X o "get" di (.Tuple es O M) cx):JE X (.Call (.Attribute o "get" di) [.Tuple es O M] [] cx) (EX fo fa):=by
 refine PE.to (xf hu ho (z4 ha) m) λσ H Q q=>?_;obtain⟨B,ρ,d,bb,sB,r,G,q⟩:=q;obtain⟨x,ex,G⟩:=oX G;obtain⟨ds,ey,G⟩:=oX G;refine⟨B,ρ,x.1,x.2,sB,r,ex,λv H1 N1 O i1 ff=>?_⟩;obtain⟨xd,xb⟩:=x;cases i1 with
 |@dt a ks vs Ms h hl hs=>
  simp only at G;split at G
  ·rename_i hz;obtain⟨k,hk,G⟩:=oY G;cases G
   refine⟨a,rfl,.inr ⟨_,.inl (O.nh _ _ h)⟩,N1,ρ,ds,O.nh,r.mono O.bn,ey,λus H2 N2 U i2=>?_⟩;have hv:=Ac i2 hk;have Wz:us.length<=sizeLine:=by rw[i2.length];exact hz
   refine⟨Wz,λp hp=>?_⟩;have T:=Ext.laid (o:=.tup us) U.nh hp;have W4:N2 a=some (.dT (ks.zip vs)):=U.bn _ _ h;refine⟨jM (ks.zip vs) k,.inr ⟨_,k,p,.inl (T.nh _ _ (T.bn _ _ W4)),rfl,by rw[aC,hv],rfl⟩,?_⟩;have PY:=(hs.mono U.bn).mono T.bn;rcases qg k hl PY with⟨v,d',e1,e2,i3⟩|⟨e1,e2⟩
   ·rw[e1];rw[e2]at q;exact(q.into ((O.trans U).trans T)).one T.nh i3
   ·rw[e1];rw[e2]at q;exact(q.into ((O.trans U).trans T)).one T.nh .non
  ·cases G
 |_=>simp at G
end
section
variable {K:Frag}{E:Ends}{σ:St}{H:Hp}
def tO (i:Nat)(M:FA)(O:FE):FS:=λρ=>match ρ[i]? with
 |some (some (.dt ks vs,true))=>(O ρ).bind λv=>(M ρ).bind λkd=>(iE kd).bind λG=>if bx v.1=true/\ks.length<sizeLine/\kd.length<=sizeLine then some (.nx (ρ.set i (some (.dt (dG ks G) (dH ks vs G v.1),true))))else none
 |_=>none
def EZ {i:Nat}{M:FA}{O:FE}(q:lV K (tO i M O) E σ H):AA (oB i) (NB (Ln K M)) (tD K O) E σ H:=by
 obtain⟨B0,H0,ρ,r,⟨N,s⟩,e,p⟩:=q;unfold tO at e;split at e
 ·rename_i ks ds ei;obtain⟨v,ev,e⟩:=oX e;obtain⟨kd,ek,e⟩:=oX e;obtain⟨kk,hk,e⟩:=oX e;split at e
  ·rename_i hx;cases e
   refine⟨N,ρ,v.1,v.2,s.ext.nh,s.rep,ev,λv1 H1 N1 x1 i1 _=>?_⟩;have s1:=s.grow x1;obtain⟨a,o,h1,h2,h3,h4⟩:=s1.ow i _ ei;refine⟨.ref a,h1,N1,ρ,kd,s1.ext.nh,s1.rep,ek,λus H2 N2 T U=>?_⟩;have s2:=s1.grow T;have hv:=Ac U hk;refine⟨by rw[U.length];exact hx.2.2,λpp hp=>?_⟩;have x3:=Ext.laid (o:=.tup us) s2.ext.nh hp;have G:=s2.grow x3;obtain⟨a',o',k1,k2,k3,k4⟩:=G.ow i _ ei;rw[h1]at k1;cases k1
   cases k4 with
   |@dt ks vs ds hl h5=>
    refine⟨a,rfl,.inr ⟨_,kk,pp,G.ext.nh _ _ k2,rfl,by rw[aC,hv],?_,?_⟩⟩
    ·rw[length_zip];omega
    ·rw[oR hl];exact p σ _ ⟨_,G.writeB ei h1 (.dt (mu hl _ _) (h5.put (G.flat ((i1.mono T.bn).mono x3.bn) hx.1)))⟩
  ·cases e
 ·cases e
end
section
variable {X:Cx}{pos:Pos}{e:Expr}{es:QD}
def HX (hu:X.A.units+1<cLine)(hv:JE X e fv)(hk:JA X es fk)(O:X.N[i]? = some y:=by rfl)(G:Kx X.env.scope y:=by first|exact Or.inl rfl|exact Or.inr (Or.inl rfl)|exact Or.inr (Or.inr rfl))(hd:(y == ("__debug__" : Str))=false:=by decide)
  (M:(y == ("__classdict__" : Str))=false:=by decide) (hs:swapsWith e (some (.Subscript (.Name y py) (.Tuple es x1 Mr) pt)) pos.line X.env=pure false:=by rfl):JS X (.Assign [.Subscript (.Name y py) (.Tuple es x1 Mr) pt] e pos) (tO i fk fv) :=
 PS.to (uA hu (px O G hd M) (z4 hk) hv hs) λ_ _ _ q=>EZ q
end
end DL
namespace L2
open PySem PySem.Spec PyProof.Rows
noncomputable def QI (a:Addr)(aN:List (eC×V))(ob:Obj):It:=⟨λi H=>H a=some (.dK aN ob)/\i<aN.length,λi H x H'=>H'=H/\∃k,aN[i]? = some (k,x),λi H=>H a=some (.dK aN ob)/\aN.length<=i⟩
def KV.get {aN:List (eC×V)}{vs:List (eC×Value)}(r:KV aN vs){i:Nat}{k:eC}{x:V}(h:aN[i]? = some (k,x)):∃u,vs[i]? = some (k,u)/\aY x u:=by
 unfold KV at r;induction r generalizing i with
 |nil=>simp at h
 |@cons p q ps T hq t G=>
  cases i with
  |zero=>
   cases (show p=(k,x)from vK h)
   obtain⟨M,O⟩:=q;exact⟨O,by rw[show k=M from hq.1];rfl,hq.2⟩
  |succ i=>exact G h
def Ow (h:(cu P w).is k u=true):aY (kV k) u:=by
 cases k with
 |inl i=>exact Value.isInt_shape h
 |inr z=>exact Value.isStrOf_shape h
section
variable {P:Program}{w:World}{H:Hp}{h:Heap}{a:Addr}
def qo (ok:lf P w H h)(e:H a=some (.dK aN ob))(hd:ob.data=.dict es ep):∃vs,KV aN vs/\h.DictAt (cu P w) a vs ep:=by
 obtain⟨_,_,vs,r,o,G,M,h1,h2,h3,h4⟩:=p8 ok e;rw[zC ok e]at h1;cases h1
 rw[hd]at h3;cases h3
 exact⟨vs,r,ob,es,zC ok e,h2,hd,h4⟩
def wl (ok:lf P w H h)(e:H a=some (.dK aN ob)):∃es O,ob.data=.dict es O:=by
 obtain⟨_,_,vs,r,o,G,M,h1,h2,h3,h4⟩:=p8 ok e;rw[zC ok e]at h1;cases h1
 exact⟨G,M,h3⟩
end
def CQ {P:Program}{w:World}{K:Frag}{tg:Expr}(a it:Addr)(aN:List (eC×V))(ob:Obj){es:Array DictEntry}{ep:Nat}(hd:ob.data=.dict es ep):Turn P w K tg (QI a aN ob) [it] it (λi h=>h.IsValIter it a i aN.length ep) where
 mem:=by simp
 obj:=λi h st b hb=>by
  have e:b=it:=by simpa using hb
  subst e;obtain⟨o,e,c,d⟩:=st;exact⟨o,e,λv z=>by rw[d]at z;cases z⟩
 keep:=λi h h' st k=>st.at λo e=>k it (by simp) o e
 item:=by
  intro X O hw T hc i ae s σ H E I hf st U;subst O hw T;obtain⟨hH,M⟩:=U;obtain⟨vs,r,m⟩:=qo I.hok hH hd;obtain⟨f0,f1,f2,f3,f4,f5⟩:=hf it (by simp);have hl:vs.length=aN.length:=(Paired.length r).symm;obtain⟨u,hu,ru⟩:=r.get (k:=aN[i].1) (x:=aN[i].2) (vU M);refine wpAny_pyNext_values_item (by rw[hl];exact st) m hu λh' G sb=>?_;rw[hl]at G;have I1:Inv X ae σ H { s with heap:=h' }:=I.turned (t':=s.toks) (λb o hb e=>(sb.2 b hb).trans e) f0 f1 f3 f4 f5;obtain⟨o,e,c,d⟩:=id G;exact⟨u,rfl,sA (s:={ s with heap:=h' }) e c d (by decide) ⟨aN[i].2,H,I1,ru,⟨rfl,aN[i].1,vU M⟩,G,λb hb=>(hf b hb).1⟩⟩
 done:=by
  intro X O hw T hc i ae s σ H E I hf st U;subst O hw T;obtain⟨hH,Js⟩:=U;obtain⟨vs,r,m⟩:=qo I.hok hH hd;obtain⟨f0,f1,f2,f3,f4,f5⟩:=hf it (by simp);have hl:vs.length=aN.length:=(Paired.length r).symm;exact wpAny_pyNext_values_end (I.ok.hd hc) (by rw[hl];exact st) m (getElem?_eq_none (by omega)) λh' eb=>⟨rfl,I.turned (t':=s.toks) (λb o hb e=>eb b o hb e) f0 f1 f3 f4 f5⟩
 self:=λ_ _ _ _ _ st h=>wpAny_pyIter_valiter st h
section
variable {X:Cx}{tg:Expr}
def Ox (M:TE):TI:=λσ H R=>M σ H λx G=>∃a aN ob,x=.ref a/\G a=some (.dK aN ob)/\R (QI a aN ob) G
def HY {o:Expr}{U:TE}{di cx:Pos}(ho:PE X o U)(G:attributeBase o "values" X.env (eval o X.env)=eval o X.env:=by rfl)(M:(di.endLine == cx.line)=true:=by rfl):PI X tg (.Call (.Attribute o "values" di) [] [] cx) (Ox U):=by
 intro ae s σ H R I h;refine wpAny_Call_method0_late G M (cn (ho ae s σ H _ I h) λv s1 ⟨x,H1,I1,r1,a,aN,ob,ex,O,q⟩=>?_);subst ex;obtain⟨h1,h2⟩:=zB I1 r1 (T:="dict") (.inr (.inr (.inl ⟨rfl,.inl ⟨aN,ob,O⟩⟩)));cases r1
 obtain⟨es,ep,hd⟩:=wl I1.hok O;obtain⟨vs,r,m⟩:=qo I1.hok O hd;have hl:vs.length=aN.length:=(Paired.length r).symm;refine⟨"dict","dict.values",plainAttrs_dict,PySem.F.slot_dict_values,PySem.F.type_dict_values,h1,h2,Calls.callWith_builtin rfl (PySem.evalArgs_none ?_)⟩;refine call_meetsIn PySem.F.slot_dict_values h1 PySem.F.entry_dict_values (PySem.F.args_dict_values_1 _) (meets_dict_values (cu X.prog X.w) a (p8 I1.hok O).2.1) ⟨⟨vs,m.dictOf⟩,?_⟩;have I2:Inv X ae σ H1 { s1 with heap:=s1.heap.push { cls:=.type "dict_values",data:=.fields #[.ref a] } }:=I1.kept (t':=s1.toks) λb o e=>vZ _ e;refine wpAny_pyIter_values (v:=s1.heap.objs.size) ⟨_,vY _ rfl,rfl,rfl⟩ (m.keep λb o e=>vZ _ e) ?_;rw[hl];refine⟨(s1.heap.push { cls:=.type "dict_values",data:=.fields #[.ref a] }).objs.size,[(s1.heap.push { cls:=.type "dict_values",data:=.fields #[.ref a] }).objs.size],_,_,H1,rfl,I2.kept (t':=s1.toks) λb o e=>vZ _ e,CQ a _ aN ob hd,⟨_,vY _ rfl,rfl,rfl⟩,λb hb=>?_,q⟩;have e:b=(s1.heap.push { cls:=.type "dict_values",data:=.fields #[.ref a] }).objs.size:=by simpa using hb
 subst e;exact I2.fpOk (vT _) (I2.hok.fresh (vT _))
end
end L2
namespace DL
open PySem PySem.Spec PySem.W PyProof.Rows L2
noncomputable def kD:eC->D
 |.inl i=>.int i
 |.inr z=>.str z
def Oy {K:Frag}{B:Hp}(k:eC):Is K B (kV k) (kD k):=by
 cases k with
 |inl i=>exact .int i
 |inr z=>exact .str z
section
variable {K:Frag}{B:Hp}
def HZ {a:Addr}{ks:LK}{vs:LV}{ds:LD}{ob:Obj}(h:B a=some (.dK (ks.zip vs) ob))(hl:ks.length=vs.length)(hs:IsL K B vs ds):nj K (QI a (ks.zip vs) ob) B ds:=by
 intro i H s;have hz:(ks.zip vs).length=vs.length:=by rw[length_zip];omega
 refine⟨λd ed=>?_,λG=>⟨s _ _ h,by rw[hz,hs.length];exact G⟩⟩;obtain⟨v,O,iv⟩:=hs.get ed;have M:i<vs.length:=(vV O).1;refine⟨⟨s _ _ h,by rw[hz];exact M⟩,λy T hy=>?_⟩;obtain⟨rfl,k,e⟩:=hy;have:=(getElem?_zip_eq_some.mp e).2;rw[O]at this;cases this
 exact⟨B,.refl s,iv⟩
end
section
variable {X:Cx}{e:Expr}{tg:Expr}
@[simp] noncomputable def qp (f:FE):FA:=λρ=>(f ρ).bind λx=>match x.1 with|.dk _ ds=>some ds|_=>none
def Bm (h:JE X e f)(G:attributeBase e "values" X.env (eval e X.env)=eval e X.env:=by rfl)(M:(di.endLine == cx.line)=true:=by rfl):JI X tg (.Call (.Attribute e "values" di) [] [] cx) (qp f):=by
 intro ae s σ H R I q;obtain⟨B,ρ,ds,T,r,U,q⟩:=q;obtain⟨⟨xd,xb⟩,ex,es⟩:=oX U;cases xd<;>try (cases es;done)
 cases es
 refine HY h G M ae s σ H R I ⟨B,ρ,_,_,T,r,ex,λv H1 N1 O i1 _=>?_⟩;cases i1 with
 |@dk a ks vs ds ob hd hl hs=>exact⟨a,_,ob,rfl,O.nh _ _ hd,q _ H1 N1 O (HZ hd hl hs)⟩
end
end DL
namespace DL
open PySem PySem.Spec PyProof.Rows L2
@[simp] abbrev cH (i:Nat)(j:Int):FE:=f2 bB (ai i) (fC (.int j))
def aR (F:Fn X.prog X.w X.K X.mg X.base k x f)(hr:fg j X.A)(ha:JA X (e::es) fa)(hj:k<=j:=by decide)(O:Gl X x:=by rfl)(G:(x == ("__debug__" : Str))=false:=by decide)(he:starEach (e::es) X.env=(false,eval e X.env)::starEach es X.env:=by rfl)(M:(backTo pos (starEach es X.env)).any (·.1)=false:=by rfl):JE X (.Call (.Name x p) (e::es) [] pos) (fA f fa):=AG F (hr.mono hj) ha O G he M
def Oz (h1:∀y∈scope.names,y.2≠.cell:=by decide +kernel)(h2:scope.kind=.function:=by rfl)(h3:∀y∈scope.names,y.2=.local->scope.names.lookup y.1=some .local:=by decide +kernel)(G:(scope.names.all λy=>!(y.2 == NameKind.free) || (X.env.cells.lookup y.1).isSome)=true:=by rfl):CompSc X scope (dM scope.names X.env.cells []):=Lr h1 h2 h3 G
def SE (h1:N'[j]? = some x)(h2:X.N[i]? = some x)(t:mT X N' scope (dM scope.names X.env.cells []) (j+1) r)(h3:X.env.kindOf x=some .cell∨X.env.kindOf x=some .free:=by exact Or.inl rfl)(h4:(relabel scope X.env).names.lookup x=some .cell∨(relabel scope X.env).names.lookup x=some .free:=by exact Or.inl rfl)(hf:(x,NameKind.free)∈scope.names:=by decide +kernel)(hc:(X.env.cells.lookup x).isSome=true:=by rfl):mT X N' scope (dM scope.names X.env.cells []) j (i::r):=.cons h1 h2 h3 h4 (oM hf hc) t
end DL
namespace DL
open PySem PySem.Spec PySem.W PyProof.Rows L2
noncomputable def nA:At->D
 |.i n=>.int n
 |.s z=>.str z
section
variable {prog:Program}{w:World}{A:Around}{E:QV}{s:Shared}
def O0 (hx:zn x u)(hy:zn y v):SeqAt.EqAt A s u v (cU (nA x) (nA y)):=by
 cases x with
 |i a=>
  obtain⟨t,rfl⟩:=hx;cases y with
  |i c=>obtain⟨t',rfl⟩:=hy;simp only[nA,cU];exact SeqAt.EqAt.int_int _ _ _ _
  |s c=>obtain⟨t',rfl⟩:=hy;simp only[nA,cU];exact SeqAt.EqAt.int_str _ _ _ _
 |s a=>
  obtain⟨t,rfl⟩:=hx;cases y with
  |i c=>obtain⟨t',rfl⟩:=hy;simp only[nA,cU];exact SeqAt.EqAt.str_int _ _ _ _
  |s c=>obtain⟨t',rfl⟩:=hy;simp only[nA,cU];exact SeqAt.EqAt.str_str _ _ _ _
theorem Bn:∀ {xs ys:List At}{vs:LU},Paired zn xs vs->Paired zn ys vs->xs=ys
 |_,_,_,.nil,.nil=>rfl
 |x::xs,y::ys,_,.cons p ps,.cons q G=>by
  rw[Bn ps G];congr 1;cases x with
  |i a=>
   obtain⟨t,rfl⟩:=p;cases y with
   |i c=>obtain⟨t',e⟩:=q;cases e;rfl
   |s c=>obtain⟨t',e⟩:=q;cases e
  |s a=>
   obtain⟨t,rfl⟩:=p;cases y with
   |i c=>obtain⟨t',e⟩:=q;cases e
   |s c=>obtain⟨t',e⟩:=q;cases e;rfl
def LZ (x y:At):cU (nA x) (nA y)=true↔x=y:=by
 cases x<;>cases y<;>simp[nA]
theorem oS:∀xs ys:List At,fU (xs.map nA) (ys.map nA)=true↔xs=ys
 |[],[]=>by simp[fU]
 |[],_::_=>by simp[fU]
 |_::_,[]=>by simp[fU]
 |x::xs,y::ys=>by
  rw[uY,uY,fU,vC,LZ,oS xs ys];simp
def Ma (hx:hV s.heap xs x)(hy:hV s.heap ys y)(hu:A.units<cLine):SeqAt.EqAt A s x y (fU (xs.map nA) (ys.map nA)):=by
 obtain⟨a,o,its,n,rfl,ho,hc,hd,r⟩:=hx;obtain⟨b,o',G,m,rfl,M,U,O,r'⟩:=hy;by_cases T:a=b
 ·subst T;rw[ho]at M;cases M;rw[hd]at O;cases O;rw[Bn r r',(oS ys ys).mpr rfl];exact SeqAt.EqAt.same _
 ·have t1:s.heap.IsTuple a its:=⟨o,ho,hc,n,hd⟩;have t2:s.heap.IsTuple b G:=⟨o',M,U,m,O⟩;have l1:xs.length=its.size:=by rw[←vG];exact ge r
  have l2:ys.length=G.size:=by rw[←vG];exact ge r'
  have he:∀j (h1:j<its.size) (h2:j<G.size),SeqAt.EqAt A.in1 s its[j] G[j] (cU ((xs.map nA).getD j .non) ((ys.map nA).getD j .non)):=λj h1 h2=>by
   have p:=fw (.i 0) Value.none r (i:=j) (by omega);have q:=fw (.i 0) Value.none r' (i:=j) (by omega);have e1:its.toList.getD j Value.none=its[j]:=by rw[vF,getElem?_toList,getElem?_eq_getElem h1];rfl
   have e2:G.toList.getD j Value.none=G[j]:=by rw[vF,getElem?_toList,getElem?_eq_getElem h2];rfl
   rw[e1]at p;rw[e2]at q;have e3:(xs.map nA).getD j .non=nA (xs.getD j (.i 0)):=by simp[vF,show j<xs.length by omega]
   have e4:(ys.map nA).getD j .non=nA (ys.getD j (.i 0)):=by simp[vF,show j<ys.length by omega]
   rw[e3,e4];exact O0 p q
  have rc:=SeqAt.RcAt.tuples t1 t2 hu he;have OT:((List.range (min its.size G.size)).all (λj=>cU ((xs.map nA).getD j .non) ((ys.map nA).getD j .non)) && its.size == G.size)=fU (xs.map nA) (ys.map nA):=by
   rw[←l1,←l2];by_cases hl:xs.length=ys.length
   ·rw[←hl,Nat.min_self,beq_self_eq_true,Bool.and_true];have:=j5 (λj=>cU ((xs.map nA).getD j .non) ((ys.map nA).getD j .non)) (xs:=xs.map nA) (ys:=ys.map nA) (by simpa using hl) λj x y e1 e2=>uK j x y e1 e2;rwa [vI]at this
   ·rw[uJ (by simpa using hl),beq_eq_false_iff_ne.mpr hl,Bool.and_false]
  rw[OT]at rc;exact SeqAt.EqAt.of_refs T rc
def CS (xs:List At):br xs xs=some false:=by
 induction xs with
 |nil=>rfl
 |cons x xs G=>cases x<;>rw[br,if_pos rfl,G]
def Fa (hx:hV s.heap xs x)(hy:hV s.heap ys y)(h:br (.i n::xs) (.i m::ys)=some b)(hu:A.units<cLine)(q:Q b s)(hn:zn (.i n) u)(hm:zn (.i m) v):KatLex prog w A true false Q [(u,v),(x,y)] 0 s:=by
 obtain⟨t,rfl⟩:=hn;obtain⟨t',rfl⟩:=hm;refine kat_cons (wpAny_eqBool_int ?_);rw[br]at h;by_cases e:n=m
 ·rw[if_pos e]at h;rw[show(n == m)=true by simp[e]];refine kat_yes (kat_cons (Ma hx hy hu _ _ _ _ ?_));by_cases e2:xs=ys
  ·rw[(oS xs ys).mpr e2];rw[e2,CS]at h;cases h
   exact kat_yes (kat_nil q)
  ·rw[eq_false_iff.mpr λz=>e2 ((oS xs ys).mp z)];refine kat_no (kat_one _ _ ?_);show wpAny _ _ (richCompare .Lt x y) _ _ _;exact EL (Q:=W.BoolBack Q) hx hy h hu (by first|exact q|exact⟨b,rfl,q⟩)
 ·rw[if_neg e]at h;cases h
  rw[show(n == m)=false by simp[e]];exact kat_no (oneLt_int q)
end
def CT (h:Heap)(xs:List At)(v:Value):Prop:=∃n k a o its m u x,xs=.i n::k/\v=.ref a/\h.get? a=some o/\o.cls=.type "tuple"/\o.data=.seq its m/\its.toList=[u,x]/\zn (.i n) u/\hV h k x
section
variable {prog:Program}{w:World}{A:Around}{E:QV}{s:Shared}
def Ia (hx:CT s.heap xs x)(hy:CT s.heap ys y)(h:br xs ys=some b)(hu:A.units<cLine)(q:Q b s):wpAny (model prog w) A (keyLt' (tuples' true) x y) Q E s:=by
 obtain⟨n,k,a,o,its,m,u,x',rfl,rfl,ho,_,hd,ei,an,U⟩:=hx;obtain⟨n',k',a',o',its',m',u',y',rfl,rfl,M,_,O,G,T,ty⟩:=hy;refine kat_lt ho hd M O ?_;rw[ei,G];have hf:decide (its.size<its'.size)=false:=by
  rw[←vG,←vG,ei,G];rfl
 rw[hf];exact Fa U ty h hu q an T
theorem nZ:∀ {ks:List (List At)}{vs:LU},Paired (CT h) ks vs->∃fs,KatTups h vs fs/\fs.length=ks.length/\∀v∈fs,∃n,zn (.i n) v
 |_,_,.nil=>⟨[],trivial,rfl,by simp⟩
 |k::ks,_,.cons x t=>by
  obtain⟨fs,h1,h2,h3⟩:=nZ t;obtain⟨n,k,a,o,its,m,u,G,rfl,rfl,ho,hc,hd,ei,an,_⟩:=x;refine⟨u::fs,KatTups.cons ho hc hd (by rw[←getElem?_toList,ei];rfl) h1,by simp[h2],λv hv=>?_⟩;rcases vP hv with rfl|hv
  ·exact⟨n,an⟩
  ·exact h3 v hv
def CU (hp:Paired (CT s.heap) ks vs)(hn:0<ks.length)(q:Q (tuples' true) s):wpAny (model prog w) A (keyKind' vs.toArray) Q E s:=by
 obtain⟨fs,h1,h2,h3⟩:=nZ hp;refine kat_kind (T:=.type "int") h1 (by omega) (λv hv=>?_) (by decide) q;obtain⟨n,t,rfl⟩:=h3 v hv;exact .now
def Fb (hc:eJ ks=true)(hu:A.units<cLine)(hp:Paired (CT s.heap) ks vs):∀(i j:Nat)(C:Bool->Shared->Prop)(s1:Shared),i<ks.length->j<ks.length->s1=s->(∀s',s'=s->C (pT (G1 ks) i j) s')->kas_ask prog w A (tuples' true) vs i j C s1:=by
 intro i j C s1 hi hj e M;subst e;unfold kas_ask;have G:ks.getD i []∈ks:=by rw[vF,vU hi];exact getElem_mem hi
 have O:ks.getD j []∈ks:=by rw[vF,vU hj];exact getElem_mem hj
 refine Ia (fw [] Value.none hp hi) (fw [] Value.none hp hj) (gT hc G O) hu ?_;have:=M s1 rfl;unfold pT G1 at this;rw[xU (uS ⟨_,G,rfl⟩)]at this;exact this
end
def Mb:D->Option (List At)
 |.tup [.int n,.tup es]=>(j8 es).map (.i n :: ·)
 |_=>none
def jk:LD->Option (List (List At))
 |[]=>some []
 |d::ds=>(Mb d).bind λa=>(jk ds).map (a :: ·)
theorem tP:∀ {ds:LD}{ks:List (List At)},jk ds=some ks->ks.length=ds.length
 |[],_,h=>by simp only[jk]at h;cases h;rfl
 |d::ds,_,h=>by
  simp only[jk]at h;obtain⟨a,h1,h⟩:=oX h;obtain⟨r,h2,h⟩:=oY h;subst h;simp[tP h2]
theorem yg (I:Inv X ae σ H s):∀ {ys:LV}{ds:LD}{ks:List (List At)}{its:LU},ba ys its->IsL X.K H ys ds->jk ds=some ks->Paired (CT s.heap) ks its
 |_,_,_,_,.nil,.nil,h=>by simp only[jk]at h;cases h;exact .nil
 |_,_,_,_,.cons r T,.cons i U,h=>by
  simp only[jk]at h;obtain⟨a,h1,h⟩:=oX h;obtain⟨t,h2,h⟩:=oY h;subst h;refine .cons ?_ (yg I T U h2);unfold Mb at h1;split at h1
  ·rename_i n es;obtain⟨k,M,rfl⟩:=oY h1;cases i with
   |tup hq hl=>
    cases r
    obtain⟨its',G,⟨o,ho,hc,m,hd⟩,_⟩:=I.tuple hq;cases hl with
    |cons i1 hl=>
     cases hl with
     |cons i2 hl=>
      cases hl
      cases G with
      |cons r1 G=>
       cases G with
       |cons r2 G=>
        cases G
        cases i1
        have hk:dF [D.tup es]=some [k]:=by show(j8 es).bind _=_;rw[M];rfl
        have O:=oN I (.cons r2 .nil) (.cons i2 .nil) hk;cases O with
        |cons O _=>exact⟨n,k,_,o,_,m,_,_,rfl,rfl,ho,hc,hd,rfl,r1,O⟩
  ·cases h1
def Ib (hu:A.units<cLine):KK X A jk λ_=>true:=⟨tP,λI _ _ _ _ r i e _ hc=>have hp:=yg I r i e;⟨λhn _ _ q=>CU hp hn q,Fb hc hu hp⟩⟩
def Fc (hu:X.A.units+40<cLine):KK X X.A.in1.in1 jk λ_=>true:=Ib (show X.A.units+1+1<cLine by omega)
@[simp] abbrev Ad:FE->(Env->D->Option D)->FE:=we jk λ_=>true
end DL
namespace DL
open PySem PySem.Spec PyProof.Rows L2
def O1:Nat->(LU->Prop)->Prop
 |0,P=>P []
 |n+1,P=>∀a,O1 n λl=>P (a::l)
theorem Mc:∀n P,O1 n P->∀us:LU,us.length=n->P us
 |0,_,h,[],_=>h
 |n+1,_,h,a::us,e=>Mc n _ (h a) us (Nat.succ.inj e)
section
variable {P:Program}{w:World}{K:Frag}{mg:SV}{base:Heap}
def KC (K:Frag)(mg:SV)(x:Str)(c:D):Prop:=∃u v,mg x=some u/\aY v u/\∀B,Is K B v c
def KD (w:World)(K:Frag)(mg:SV)(x:Str)(c:List (Str×D)):Prop:=∃d,mg x=some (.ref d)/\tm K w.params d c
def kc_of {x:Str}{c:D}{h:Heap}(X:K.In h)(G:h.Ns mainGlobals mg)(k:∃u v,nsIn K mainGlobals x=some (some u)/\aY v u/\∀B,Is K B v c):KC K mg x c:=let ⟨u,v,e,r⟩:=k;⟨u,v,mg_of X G e,r⟩
def kd_of {x:Str}{c:List (Str×D)}{h:Heap}(X:K.In h)(G:h.Ns mainGlobals mg)(k:∃d,nsIn K mainGlobals x=some (some (.ref d))/\tm K w.params d c):KD w K mg x c:=let ⟨d,e,r⟩:=k;⟨d,mg_of X G e,r⟩
def dj.fqL {x:Str}{st:Stmt}{k:Nat}{O:LD->OB}(F:dj K x st)(B:∃h,K.In h/\h.Ns mainGlobals mg)(g:FS)(N:LS)(n:Nat)
  (hb:∀ {f:Addr}{eP:Value}{A:Around}{outer:List PySem.Env}{s:Shared}{H:Hp}{E:XK},N.Nodup->fg k (A.deeper (envOfC x (aT st) s.heap.objs.size f eP))->(A.deeper (envOfC x (aT st) s.heap.objs.size f eP)).units+40<cLine->(∀c P,PySem.W.tabIn K x=some (c,P)->eP=.ref c)->uE (oC zi P w K mg base N x (aT st) f eP A outer s H E).nox (cK st) g)
  (S:FnScope N (N.take n) (aT st):=by refine⟨rfl,rfl,rfl,?_,rfl,?_,?_⟩<;>decide +kernel)
  (M:∀(kV doc pm:Value)(an:Option Addr)(eP ct:Value)(us:LU),us.length=(N.take n).length->bindArgs (fnOf x x (gq st) (cK st) (aT st) .none kV doc pm an eP ct) ⟨us,[]⟩=pure ((N.take n).zip us):=by
   exact λ_ _ _ _ _ _=>Mc _ _ (by(repeat intro);rfl))
  (e:aL g (N.take n).length (N.length - (N.take n).length)=O:=by rfl):
  Fn P w K mg base (k+1) x O:=let ⟨_,X,G⟩:=B;e ▸ F.fnL X G S M λ_ _ _ _ _ _ _ hc hr=>hb S.nd hr (C3 hr) hc
def dj.fq {x:Str}{st:Stmt}{k:Nat}{M:LD->OB}(F:dj K x st)(B:∃h,K.In h/\h.Ns mainGlobals mg)(g:FS)(N:LS)(n:Nat)
  (hb:∀ {f:Addr}{eP:Value}{A:Around}{outer:List PySem.Env}{s:Shared}{H:Hp}{E:XK},N.Nodup->fg k (A.deeper (envOfC x (aT st) s.heap.objs.size f eP))->(A.deeper (envOfC x (aT st) s.heap.objs.size f eP)).units+40<cLine->uE (oC zi P w K mg base N x (aT st) f eP A outer s H E).nox (cK st) g)
  (S:FnScope N (N.take n) (aT st):=by refine⟨rfl,rfl,rfl,?_,rfl,?_,?_⟩<;>decide +kernel)
  (G:∀(kV doc pm:Value)(an:Option Addr)(eP ct:Value)(us:LU),us.length=(N.take n).length->bindArgs (fnOf x x (gq st) (cK st) (aT st) .none kV doc pm an eP ct) ⟨us,[]⟩=pure ((N.take n).zip us):=by
   exact λ_ _ _ _ _ _=>Mc _ _ (by(repeat intro);rfl))
  (e:aL g (N.take n).length (N.length - (N.take n).length)=M:=by rfl):
  Fn P w K mg base (k+1) x M:=F.fqL B g N n (λn r u _=>hb n r u) S G e
end
section
variable {X:Cx}{x:Str}{pos:Pos}
def zo (i:Nat)(G:X.N.Nodup)(hi:X.N[i]? = some x:=by rfl)(hx:D9 X.env.scope x:=by first|exact Or.inl rfl|exact Or.inr rfl)(hf:X.fn x=true∨X.env.scope.names.lookup x=some .local:=by first|exact .inl rfl|exact .inr rfl):PG X (.Name x pos) (ja i):=A4 G hi hx hf
def MI {fp}(i:Nat)(G:N'.Nodup:=by decide +kernel)(hi:(iM X N' scope cl C s H fp).N[i]? = some x:=by rfl)(hx:D9 (iM X N' scope cl C s H fp).env.scope x:=by exact Or.inl rfl)(hf:(iM X N' scope cl C s H fp).fn x=true∨(iM X N' scope cl C s H fp).env.scope.names.lookup x=some .local:=by first|exact .inl rfl|exact .inr rfl):PG (iM X N' scope cl C s H fp) (.Name x pos) (ja i):=A4 G hi hx hf
def fX (N':LS)(hi:JI X tg gp fi)(hc:∀ {C s H fp},JC (iM X N' scope (dM scope.names X.env.cells []) C s H fp) A1 fc)(he:∀ {C s H fp},JE (iM X N' scope (dM scope.names X.env.cells []) C s H fp) wK fe)
  (M:JF X.K nT pj g:=by first|exact xl (by decide)|exact JQ (by decide)) (O:∀ {C s H fp},PG (iM X N' scope (dM scope.names X.env.cells []) C s H fp) tg g:=by intros;first|exact MI 0|exact zt rfl (jb (MI 0) (jb (MI 1) ut)))
  (T:mT X N' scope (dM scope.names X.env.cells []) nT cap:=by repeat first|exact .nil rfl|refine SE rfl rfl ?_)
  (S:CompSc X scope (dM scope.names X.env.cells []):=by exact Oz) (G:X.calm=true:=by rfl)
  (hs:∀x,foldedSetIterable gp X.env x=pure x:=by intro _;rfl):
  JE X (.ListComp wK [⟨tg,gp,A1,0⟩] scope pos) (bK fi nT cap pj fc fe):=Hi G S T hi (λ_ _ _ _=>O) M (λ_ _ _ _=>hc) (λ_ _ _ _=>he) hs
def mv (N':LS)(U:X.N.Nodup)(hi:JI X tg gp fi)(hc:∀ {C s H fp},JC (iM X N' scope (dM scope.names X.env.cells []) C s H fp) A1 fc)(he:∀ {C s H fp},JE (iM X N' scope (dM scope.names X.env.cells []) C s H fp) wK fe)
  (M:JF X.K nT pj g:=by first|exact xl (by decide)|exact JQ (by decide)) (hg:∀ {C s H fp},PG (iM X N' scope (dM scope.names X.env.cells []) C s H fp) tg g:=by intros;first|exact MI 0|exact zt rfl (jb (MI 0) (jb (MI 1) ut)))
  (cp:mT X N' scope (dM scope.names X.env.cells []) nT cap:=by repeat first|exact .nil rfl|refine SE rfl rfl ?_)
  (O:X.N[i]? = some y:=by rfl) (hy:X.env.kindOf y=some .local:=by rfl)
  (T:swapsWith (.ListComp wK [⟨tg,gp,A1,0⟩] scope pos) (some (.Name y py)) spos.line X.env=pure true:=by rfl)
  (S:CompSc X scope (dM scope.names X.env.cells []):=by exact Oz) (G:X.calm=true:=by rfl)
  (hs:∀x,foldedSetIterable gp X.env x=pure x:=by intro _;rfl):
  JS X (.Assign [.Name y py] (.ListComp wK [⟨tg,gp,A1,0⟩] scope pos) spos) (aK i (bK fi nT cap pj fc fe)):=Hj G U O hy T S cp hi (λ_ _ _ _=>hg) M (λ_ _ _ _=>hc) (λ_ _ _ _=>he) hs
def lr (hi:JI X tg gp fi)(G:PG X tg t)(M:Hf X.K pj t)(hb:uE X body g)(hp:PassesOwn (model X.prog X.w) X.A X.env X.xe:=by exact PassesOwn.never)(hc:X.calm=true:=by rfl)
  (hs:∀x,foldedSetIterable gp X.env x=pure x:=by intro _;rfl):JS X (.For tg gp body [] pos) (jz fi pj g):=Lz hp hc hi G M hb hs
def yh (hi:PI X tg gp (NR X.K fi))(G:PG X tg t)(M:Hf X.K pj t)(hb:uE X body g)(hp:PassesOwn (model X.prog X.w) X.A X.env X.xe:=by exact PassesOwn.never)(hc:X.calm=true:=by rfl)
  (hs:∀x,foldedSetIterable gp X.env x=pure x:=by intro _;rfl):JS X (.For tg gp body [] pos) (jK fi pj g):=Hq hp hc hi G M hb hs
end
end DL
namespace DL
open PySem PySem.Spec PySem.W PyProof.Rows L2
def qq:entryFor table "dict_itemiterator.__iter__" = some Builtin.«dict_keyiterator.__iter__»:=entryFor_alias (id':="dict_keyiterator.__iter__") (by kernel_rfl) rfl (by decide +kernel) (by kernel_rfl)
def wm (he:IsItemIter s.heap it d i n ep ok ov)(h:Q (.ref it) s):wpAny (model prog w) A (pyIter (.ref it)) Q E s:=by
 have G:s.TypeIs (.ref it) "dict_itemiterator":=⟨_,he,rfl⟩;refine wpAny_pyIter_slot G PySem.F.slot_dict_itemiterator_iter (wpAny_call_entry PySem.F.slot_dict_itemiterator_iter G qq ?_ (PySem.F.args_dict_itemiterator_iter_1 _));show wpAny _ _ (ret (.ref it)) _ _ s;exact wY ⟨_,rfl,"dict_itemiterator",_,G,PySem.F.slot_dict_itemiterator_next.lookup,h⟩
noncomputable def QJ (a:Addr)(aN:List (eC×V))(ob:Obj):It:=⟨λi H=>H a=some (.dK aN ob)/\i<aN.length,λi H y H'=>∃T k v,y=.ref T/\H T=none/\H'=upd H T (.tup [kV k,v])/\aN[i]? = some (k,v),λi H=>H a=some (.dK aN ob)/\aN.length<=i⟩
def Ae {P:Program}{w:World}{K:Frag}{es:QD}{kt:Nat}{pt:Pos}(a it:Addr)(aN:List (eC×V))(ob:Obj){ds:Array DictEntry}{ep:Nat}(hd:ob.data=.dict ds ep):Turn P w K (.Tuple es kt pt) (QJ a aN ob) [it] it (λi h=>∃ok G,IsItemIter h it a i aN.length ep ok G) where
 mem:=by simp
 obj:=λi h st b hb=>by
  have e:b=it:=by simpa using hb
  subst e;obtain⟨ok,G,e⟩:=st;exact⟨_,e,λv z=>by cases z⟩
 keep:=λi h h' st k=>let ⟨ok,G,e⟩:=st;⟨ok,G,k it (by simp) _ e⟩
 item:=by
  intro X hP hw hK hc i ae s σ H E I hf st hg;subst hP hw hK;obtain⟨ok,G,he⟩:=st;obtain⟨hH,M⟩:=hg;obtain⟨vs,r,m⟩:=qo I.hok hH hd;have hl:vs.length=aN.length:=(Paired.length r).symm;obtain⟨u,hu,ru⟩:=r.get (k:=aN[i].1) (x:=aN[i].2) (vU M);have fresh:H s.heap.objs.size=none:=I.hok.fresh (vT _);have O:it≠s.heap.objs.size:=vS (vX he);refine wpAny_pyNext_items_item (by rw[hl];exact he) m hu λkey h' T ho hT hsz hk=>?_;rw[hl]at ho;refine⟨_,rfl,wpAny_letOwnedTupleGo_items (s:={ s with heap:=h' }) ho λh2 MQ s2=>?_⟩;have U:Heap.SameBut it h' h2:=s2;have kk:∀b o,b∉[it]->s.heap.get? b=some o->h2.get? b=some o:=λb o hb q=>U.extBut _ _ (λz=>hb (by simp[z])) (hk b o (λz=>hb (by simp[z])) q);have new:bT X.prog X.w (upd H s.heap.objs.size (.tup [kV aN[i].1,aN[i].2])) h2 s.heap.objs.size (.tup [kV aN[i].1,aN[i].2]):=⟨by show 2<=sizeLine;decide,[key,u],.cons (Ow T) (.cons ru .nil),⟨_,U.extBut _ _ O.symm hT,rfl,_,rfl⟩⟩;refine⟨.ref s.heap.objs.size,upd H s.heap.objs.size (.tup [kV aN[i].1,aN[i].2]),Ez (s:=s) (t':=s.toks) I hf kk (vT _) new,rfl,⟨_,aN[i].1,aN[i].2,rfl,fresh,rfl,vU M⟩,⟨_,_,MQ⟩,λb hb=>?_⟩;have D8:b≠s.heap.objs.size:=by
   have e:b=it:=by simpa using hb
   rw[e];exact O
  rw[aI D8];exact(hf b hb).1
 done:=by
  intro X hP hw hK hc i ae s σ H E I hf st hg;subst hP hw hK;obtain⟨ok,G,he⟩:=st;obtain⟨hH,Js⟩:=hg;obtain⟨vs,r,m⟩:=qo I.hok hH hd;have hl:vs.length=aN.length:=(Paired.length r).symm;exact wpAny_pyNext_items_end (I.ok.hd hc) (by rw[hl];exact he) m (getElem?_eq_none (by omega)) λh' hk=>⟨rfl,ml (t':=s.toks) I hf λb o hb q=>hk b o (λz=>hb (by simp[z])) q⟩
 self:=λ_ _ _ _ _ st h=>let ⟨_,_,he⟩:=st;wm he h
section
variable {X:Cx}{es:QD}{kt:Nat}{pt:Pos}{e:Expr}
def QK (M:TE):TI:=λσ H R=>M σ H λx G=>∃a aN ob,x=.ref a/\G a=some (.dK aN ob)/\R (QJ a aN ob) G
def Fd {o:Expr}{U:TE}{di cx:Pos}(ho:PE X o U)(G:attributeBase o "items" X.env (eval o X.env)=eval o X.env:=by rfl)(M:(di.endLine == cx.line)=true:=by rfl):PI X (.Tuple es kt pt) (.Call (.Attribute o "items" di) [] [] cx) (QK U):=by
 intro ae s σ H R I h;refine wpAny_Call_method0_late G M (cn (ho ae s σ H _ I h) λv s1 ⟨x,H1,I1,r1,a,aN,ob,ex,O,q⟩=>?_);subst ex;obtain⟨h1,h2⟩:=zB I1 r1 (T:="dict") (.inr (.inr (.inl ⟨rfl,.inl ⟨aN,ob,O⟩⟩)));cases r1
 obtain⟨es,ep,hd⟩:=wl I1.hok O;obtain⟨vs,r,m⟩:=qo I1.hok O hd;have hl:vs.length=aN.length:=(Paired.length r).symm;refine⟨"dict","dict.items",plainAttrs_dict,PySem.F.slot_dict_items,PySem.F.type_dict_items,h1,h2,Calls.callWith_builtin rfl (PySem.evalArgs_none ?_)⟩;refine call_meetsIn PySem.F.slot_dict_items h1 PySem.F.entry_dict_items (PySem.F.args_dict_items_1 _) (meets_dict_items (cu X.prog X.w) a (p8 I1.hok O).2.1) ⟨⟨vs,m.dictOf⟩,?_⟩;have I2:Inv X ae σ H1 { s1 with heap:=s1.heap.push { cls:=.type "dict_items",data:=.fields #[.ref a] } }:=I1.kept (t':=s1.toks) λb o e=>vZ _ e;refine wpAny_pyIter_items (v:=s1.heap.objs.size) ⟨_,vY _ rfl,rfl,rfl⟩ (m.keep λb o e=>vZ _ e) ?_;rw[hl];refine⟨(s1.heap.push { cls:=.type "dict_items",data:=.fields #[.ref a] }).objs.size,[(s1.heap.push { cls:=.type "dict_items",data:=.fields #[.ref a] }).objs.size],_,_,H1,rfl,I2.kept (t':=s1.toks) λb o e=>vZ _ e,Ae a _ aN ob hd,⟨_,_,vY _ rfl⟩,λb hb=>?_,q⟩;have e:b=(s1.heap.push { cls:=.type "dict_items",data:=.fields #[.ref a] }).objs.size:=by simpa using hb
 subst e;exact I2.fpOk (vT _) (I2.hok.fresh (vT _))
noncomputable def lH (ks:LK)(ds:LD):LD:=(ks.zip ds).map λx=>.tup [kD x.1,x.2]
def Fe {K:Frag}{B:Hp}{a:Addr}{ks:LK}{vs:LV}{ds:LD}{ob:Obj}(h:B a=some (.dK (ks.zip vs) ob))(hl:ks.length=vs.length)(hs:IsL K B vs ds):nj K (QJ a (ks.zip vs) ob) B (lH ks ds):=by
 intro i H s;have hz:(ks.zip vs).length=vs.length:=by rw[length_zip];omega
 have hn:=hs.length;refine⟨λd ed=>?_,λG=>⟨s _ _ h,by unfold lH at G;rw[vI,length_zip]at G;omega⟩⟩;unfold lH at ed;rw[vA]at ed;obtain⟨⟨k0,d0⟩,ek,rfl⟩:=oY ed;obtain⟨e1,e2⟩:=getElem?_zip_eq_some.mp ek;obtain⟨v,O,iv⟩:=hs.get e2;have M:i<vs.length:=(vV O).1;refine⟨⟨s _ _ h,by rw[hz];exact M⟩,λy H3 hy=>?_⟩;obtain⟨T,k,v',rfl,hT,rfl,e⟩:=hy;obtain⟨g1,U⟩:=getElem?_zip_eq_some.mp e;rw[e1]at g1;cases g1;rw[O]at U;cases U;have xt:=Ext.laid (o:=.tup [kV k0,v']) s hT;exact⟨_,xt,.tup (iY.of aC) (.cons (Oy _) (.cons (iv.mono xt.bn) .nil))⟩
@[simp] def Bo (f:FE):FA:=λρ=>(f ρ).bind λx=>match x.1 with|.dk ks ds=>some (lH ks ds)|_=>none
def Ff (h:JE X e f)(G:attributeBase e "items" X.env (eval e X.env)=eval e X.env:=by rfl)(M:(di.endLine == cx.line)=true:=by rfl):JI X (.Tuple es kt pt) (.Call (.Attribute e "items" di) [] [] cx) (Bo f):=by
 intro ae s σ H R I q;obtain⟨B,ρ,ds,T,r,U,q⟩:=q;obtain⟨⟨xd,xb⟩,ex,es⟩:=oX U;cases xd<;>try (cases es;done)
 cases es
 refine Fd h G M ae s σ H R I ⟨B,ρ,_,_,T,r,ex,λv H1 N1 O i1 _=>?_⟩;cases i1 with
 |@dk a ks vs ds ob hd hl hs=>exact⟨a,_,ob,rfl,O.nh _ _ hd,q _ H1 N1 O (Fe hd hl hs)⟩
end
section
variable {K:Frag}{E:Ends}{σ:St}{H:Hp}
def qr (i:Nat)(M O:FE):FS:=λρ=>match ρ[i]? with
 |some (some (.dk ks vs,true))=>(O (fE ρ)).bind λv=>(M ρ).bind λk=>(kh k.1).bind λG=>if ks.length<sizeLine then some (.nx (ρ.set i (some (.dk (dG ks G) (dH ks vs G v.1),true))))else none
 |_=>none
def CV (q:lV K (qr i fk fv) E σ H):AA (oB i) (tD K fk) (tD K fv) E σ H:=by
 obtain⟨B0,H0,ρ,r,⟨N,s⟩,e,p⟩:=q;unfold qr at e;split at e
 ·rename_i ks ds ei;obtain⟨v,M,e⟩:=oX e;obtain⟨k,ek,e⟩:=oX e;obtain⟨O,hk,e⟩:=oX e;split at e
  ·rename_i hx;cases e
   refine⟨dz N (own σ ρ),fE ρ,v.1,v.2,bJ.trans s.ext.nh,s.repH,M,λv1 H1 N1 T U _=>?_⟩;obtain⟨s1,c⟩:=s.growH T;obtain⟨a,o,h1,h2,h3,h4⟩:=s1.ow i _ ei;refine⟨.ref a,h1,_,ρ,k.1,k.2,s1.ext.nh,s1.rep,ek,λv2 H2 N2 G i2 _=>?_⟩;have s2:=s1.grow G;have hv:=nY i2 hk;subst hv;obtain⟨a',o',k1,k2,k3,k4⟩:=s2.ow i _ ei;rw[h1]at k1;cases k1
   cases k4 with
   |@dk ks vs ds hl h5 ob=>
    refine⟨a,rfl,.inl ⟨_,O,_,s2.ext.nh _ _ k2,rfl,?_,λWt=>?_⟩⟩
    ·rw[length_zip];omega
    ·rw[oR hl];exact p σ _ ⟨_,s2.writeB ei h1 (.dk (mu hl _ _) (h5.put ((U.mono c).mono (dL λa o e q=>⟨G.bn a o e,q⟩))))⟩
  ·cases e
 ·cases e
end
section
variable {X:Cx}{pos:Pos}{e k:Expr}
def Fg (hu:X.A.units+1<cLine)(hv:JE X e fv)(hk:JE X k fk)(O:X.N[i]? = some y:=by rfl)(G:Kx X.env.scope y:=by first|exact Or.inl rfl|exact Or.inr (Or.inl rfl)|exact Or.inr (Or.inr rfl))(hd:(y == ("__debug__" : Str))=false:=by decide)
  (M:(y == ("__classdict__" : Str))=false:=by decide) (hs:swapsWith e (some (.Subscript (.Name y py) k pt)) pos.line X.env=pure false:=by rfl):JS X (.Assign [.Subscript (.Name y py) k pt] e pos) (qr i fk fv) :=
 PS.to (uA hu (px O G hd M) hk hv hs) λ_ _ _ q=>CV q
end
section
variable {prog:Program}{w:World}{A:Around}{E:QV}{s:Shared}
theorem Bp:∀(vs:LU)(ns:LI),vs.length=ns.length->(∀(i:Nat)(v:Value),vs[i]? = some v->∃(m:Int)(t:Tok),ns[i]? = some m/\v=Value.int m t)->IntsAre vs ns
 |[],[],_,_=>.nil
 |v::vs,n::ns,h,k=>by
  obtain⟨m,t,e,rfl⟩:=k 0 v rfl;cases (show some n=some m from e)
  exact .cons n t (Bp vs ns (by simpa using h) λi v hv=>k (i+1) v hv)
def yi (hh:A.handled=none)(lo:(a == sysModules)=false)(hm:s.heap.DictAt (cu prog w) a aN ep)(hk:aN.map (·.1)=ns.map .inl)(Kq:ns.length<64)
  (hQ:∀(h1 h':Heap)(tk:Nat)(b:Addr)(out:AV)(n:Nat)(M:LI),(∀c u,s.heap.get? c=some u->h1.get? c=some u)->(∀c u,h1.get? c=some u->h'.get? c=some u)->h1.objs.size<=b->h'.get? b=some (seqObj "list" out n) ->
   IntsAre out.toList M->M.Perm ns->M.Pairwise (·<=·)->Q (.ref b) { s with heap:=h',toks:=tk }):
  wpAny (model prog w) A (call (.builtin "sorted") [.ref a]) Q E s:=by
 refine Calls.call_function_entry kind_sorted plain_sorted entry_sorted (args_sorted1 _) ?_;unfold Builtin.«sorted»;refine wX (m:=checkCount "sorted" 1 1 _) (wY ?_);have TK:aN.length=ns.length:=by have:=congrArg List.length hk;simpa using this
 refine wX (kdu_collect (A:=A.in1) (kdl_dict lo) (by exact hh) hm (by rw[sizeLine_eq];omega) λh1 tk G T O=>?_);have U:G.toList.length=ns.length:=by rw[vG,O.1,TK]
 have Kp:IntsAre G.toList ns:=Bp G.toList ns U λi v hv=>by
  obtain⟨k,x,e1,e2⟩:=O.2 i v (by simpa using hv);have e3:(aN.map (·.1))[i]? = some k:=by rw[vA,e1];rfl
  rw[hk,vA]at e3;obtain⟨m,e4,rfl⟩:=oY e3;obtain⟨t,rfl⟩:=Value.isInt_shape (k:=m) (v:=v) e2;exact⟨m,t,e4,rfl⟩
 refine wX (wpAny_newList ?_ (by rw[U,sizeLine_eq];omega));have OF:(h1.push (seqObj "list" G.toList.toArray 0)).get? h1.objs.size=some (seqObj "list" G.toList.toArray 0):=vY _ rfl;show wpAny _ _ _ _ _ { s with heap:=h1.push (seqObj "list" G.toList.toArray 0),toks:=tk };refine wX (wpAny_holding (wpAny_call_entry slot_list_sort ⟨_,OF,rfl⟩ entry_list_sort (list_sort_tree OF Kp (by rw[U];exact Kq) λout M a1 a2 a3=>⟨_,rfl,?_⟩) (args_list_sort _)));obtain⟨n,he⟩:=sortedHeap_at (out:=out) OF;refine wY ⟨_,rfl,hQ h1 _ _ _ out n M T (λb u q=>?_) (vT _) he a1 a2 a3⟩;have hl:=vX q;rw[sortedHeap_old (vS hl) (by rw[size_push'];exact lt_succ_of_lt hl)];exact vZ _ q
end
noncomputable def tQ:LK->Option LI
 |[]=>some []
 |.inl n::ks=>(tQ ks).map (n :: ·)
 |.inr _::_=>none
theorem yj:∀ {ks:LK}{ns:LI},tQ ks=some ns->ks=ns.map .inl
 |[],_,h=>by cases h;rfl
 |.inl n::ks,_,h=>by
  obtain⟨r,h1,rfl⟩:=oY h;rw[yj h1];rfl
 |.inr _::_,_,h=>by cases h
def Ic {aN:List (eC×V)}{vs:List (eC×Value)}(r:KV aN vs):vs.map (·.1)=aN.map (·.1):=by
 unfold KV at r;induction r with
 |nil=>rfl
 |cons h t G=>rw[uY,uY,G,h.1]
@[simp] def jl:LD->OB
 |[.dk ks _]=>(tQ ks).bind λns=>if ns.length<64 then some (.lst ((pW ns).map .int),true)else none
 |_=>none
section
variable {X:Cx}
def CW (hc:X.calm=true):bW X (.builtin "sorted") (AD X.K jl):=by
 intro ae s σ H xs us Q I r h;obtain⟨B,dl,d,bb,sB,i,G,q⟩:=h;cases i with
 |nil=>simp[jl]at G
 |cons i1 i2=>
  cases i2 with
  |cons _ _=>cases i1<;>simp[jl]at G
  |nil=>
   cases i1 with
   |@dk a ks vs ds ob hd hl hs=>
    obtain⟨u,rfl,rx⟩:=gI r;cases rx
    simp only[jl]at G;obtain⟨ns,en,G⟩:=oX G;split at G
    ·rename_i O;cases G
     have T:=sB _ _ hd;obtain⟨es,ep,U⟩:=wl I.hok T;obtain⟨Rw,r',m⟩:=qo I.hok T U;have W5:Rw.map (·.1)=ns.map .inl:=by rw[Ic r',List.map_fst_zip (by omega),yj en]
     refine yi (I.ok.hd hc) (p8 I.hok T).2.1 m W5 O λh1 h' tk b out n ns' k1 k2 hb he Kp M Po=>?_;have e:=ED M Po;subst e;have I1:Inv X ae σ H { s with heap:=h1,toks:=tk }:=nq I k1 rfl rfl;have hf:H b=none:=I1.hok.fresh hb;have xt:=Ext.laid (o:=.lst ((pW ns).map V.int)) sB hf;exact⟨.ref b,_,I1.laid (t':=tk) k2 hb (show bT X.prog X.w _ h' _ (.lst ((pW ns).map V.int))from ⟨by rw[vI];unfold pW;rw[(b7 _ ns).length_eq,sizeLine_eq];omega,out.toList,n,jd Kp,he⟩),rfl,q _ _ _ xt (.lst (fT.of aC) (pX _)) λ_=>⟨_,_,_,rfl,rfl,hf,aC,pX _⟩⟩
    ·cases G
   |_=>simp[jl]at G
def Fh (hu:X.A.units+1<cLine)(hi:JE X i fi)(ho:JE X o fo)(hm:behindInMarks .In o=false:=by first|exact iZ _ (by decide) (by decide)|rfl):JE X (.Compare i [.In] [o] pos) (f2 LQ fi fo):=by
 refine PE.to (K1 (Lh hu hi ho) hm) λσ H Q q=>?_;obtain⟨B,ρ,d,bb,T,r,G,q⟩:=q;obtain⟨y,U,G⟩:=oX G;obtain⟨x,ex,G⟩:=oX G;refine⟨B,ρ,y.1,y.2,T,r,U,λv2 H1 N1 M i2 _=>⟨N1,ρ,x.1,x.2,M.nh,r.mono M.bn,ex,λv H2 N2 O i1 ff=>?_⟩⟩;obtain⟨xd,xb⟩:=x;cases i1 with
 |@dk a ks vs ds ob h hl hs=>
  simp only[LQ]at G;obtain⟨k,hk,G⟩:=oY G;cases G
  have hv:=nY i2 hk;subst hv;refine⟨a,jM (ks.zip vs) k,rfl,.inl ⟨_,k,_,.inl (O.nh _ _ h),rfl,rfl⟩,?_⟩;rw[tM hl hs];exact(q.into (M.trans O)).one O.nh (.bl _)
 |_=>simp[LQ]at G
end
end DL
namespace DL
open PySem PySem.Spec PyProof.Rows L2
@[simp] abbrev fV (i:Nat)(g:FA):FA:=af (ai i) g
@[simp] abbrev fI (n:Int):FE:=fC (.int n)
@[simp] abbrev fS (s:PySem.Str):FE:=fC (.str s)
section
variable {X:Cx}{es:QD}{g:FA}{pos:Pos}
def aB {x:Str}{p:Pos}(i:Nat)(hr:JA X es g)(G:PE X (.Name x p) (oB i):=by exact pv)
  (hs:starEach (.Name x p::es) X.env=(false,eval (.Name x p) X.env)::starEach es X.env:=by rfl):JA X (.Name x p::es) (fV i g):=ah (ag i G) hr hs
def bU {i:Int}{j:Nat}(hr:JA X es g):JA X (.Constant (.int i) j pos::es) (af (fC (.int i)) g):=ah aq hr
def a7 (F:Fn X.prog X.w X.K X.mg X.base k x f)(hr:fg j X.A)(ha:JA X (e::es) g:=by repeat first|exact ak|refine aB _ ?_|refine ah aA ?_)(hj:k<=j:=by decide)(O:Gl X x:=by rfl)(G:(x == ("__debug__" : Str))=false:=by decide)(he:starEach (e::es) X.env=(false,eval e X.env)::starEach es X.env:=by rfl)(M:(backTo pos (starEach es X.env)).any (·.1)=false:=by rfl):JE X (.Call (.Name x p) (e::es) [] pos) (fA f g):=AG F (hr.mono hj) ha O G he M
def bd (he:JE X e f):uE X [.Return (some e) pos] (aQ f):=bv (Ej he)
def bX {c:Expr}{G:FT}(hc:JT X c G)(he:JE X e f):JS X (.If c [.Return (some e) p] [] pos) (dI G (aQ f) bg):=fK hc (bv (Ej he)) fm
def bF (i:Nat)(G:PE X (.Name x p) (oB i):=by exact pv):JE X (.Subscript (.Name x p) (.Constant (.int n) j q) pos) (cH i n):=aP (ag i G) aq
end
def Af:typeLookup (.type "list_reverseiterator") "__len__" = pure none:=by rw[typeLookup_type,builtinLookup_eq_fast];kernel_rfl
def Ie:typeLookup (.type "list_reverseiterator") "__length_hint__" = pure (some (.builtin "list_reverseiterator.__length_hint__")):=by rw[typeLookup_type,builtinLookup_eq_fast];kernel_rfl
def Ag:bootBuiltins "reversed" = some (.type "reversed"):=by decide +kernel
section
variable {prog:Program}{w:World}{A:Around}{E:QV}{s:Shared}{l it:Addr}{items:AV}
def Fi {Q:Bool->Shared->Prop}(M:s.TypeIs (.ref it) "list_reverseiterator")(h:Q false s):wpAny (model prog w) A (Builtin.List.listLengthHint (.ref it)) Q E s:=by
 unfold Builtin.List.listLengthHint;refine wX (wpAny_specialOf M Af ?_);show wpAny _ A (specialOf (Value.ref it) (Str.ofString "__length_hint__")>>=_) _ _ _;refine wX (wpAny_specialOf M Ie ?_);generalize G:("list_reverseiterator.__length_hint__" : String)=id0;wp_delta;rw[show splitId id0=some ("list_reverseiterator","__length_hint__")from by subst G;decide +kernel];subst G;refine wX (wpAny_isInstance (b:=true) M (by rw[isSubtype_type];kernel_rfl) ?_);exact wY h
def si (hh:A.handled=none)(D8:l≠it)(zr:s.heap.IsRevIter it l ((items.size:Int) - 1))(hl:s.heap.IsList l items)(hn:items.size<=sizeLine)
  (hQ:∀s' G c',(∀b o,b≠it->s.heap.get? b=some o->s'.heap.get? b=some o)->s'.gens=s.gens->s'.os=s.os->s'.heap.get? s.heap.objs.size=some (seqObj "list" G c')->G.toList=items.toList.reverse->Q (.ref s.heap.objs.size) s'):
  wpAny (model prog w) A (call (.type "list") [.ref it]) Q E s:=by
 have nS:∀ {b o},s.heap.get? b=some o->b≠s.heap.objs.size:=λe=>vS (vX e);have PQ:it≠s.heap.objs.size:=by obtain⟨o,e,_⟩:=id zr;exact nS e
 have R9:l≠s.heap.objs.size:=by obtain⟨o,e,_⟩:=id hl;exact nS e
 refine callType_codes (Q₁:=λobj s₁=>obj=.ref s.heap.objs.size/\s₁={ s with heap:=s.heap.push { cls:=.type "list",data:=.seq #[] } }) PySem.F.called_list (PySem.F.typeCall_list_1 _) PySem.F.entry_list_init
  (code_list_new _ ⟨rfl,rfl⟩) λobj s₁ h₁=>?_
 obtain⟨rfl,rfl⟩:=h₁;have hS:(s.heap.push { cls:=.type "list",data:=.seq #[] }).get? s.heap.objs.size=some { cls:=.type "list",data:=.seq ([]:LU).toArray }:=vY _ rfl;refine⟨⟨_,hS,rfl⟩,PySem.F.args_list_init_2 _ _,?_⟩;show wpAny _ _ (do let old ←Builtin.List.listItems (.ref s.heap.objs.size);Builtin.List.listUpdate (.ref s.heap.objs.size) (λ_=>#[]);letGo old.toList.reverse;Builtin.List.listExtendWith (.ref s.heap.objs.size) (.ref it) .none) _ _ _;refine wX ?_;unfold Builtin.List.listItems;refine wX (wpAny_seqItems hS rfl (wY ?_));show wpAny _ _ (updateSeq s.heap.objs.size (λ_=>#[])>>=λ_=>letGo (#[]:AV).toList.reverse>>=λ_=>Builtin.List.listExtendWith (.ref s.heap.objs.size) (.ref it) .none) _ _ _;refine wX (wpAny_updateSeq hS rfl ?_);have Km:=Heap.get?_update_self (Obj.mapSeq (λ_=>(#[]:AV))) hS rfl;have U:∀b o,s.heap.get? b=some o->((s.heap.push { cls:=.type "list",data:=.seq #[] }).update s.heap.objs.size (Obj.mapSeq (λ_=>(#[]:AV)))).get? b=some o:=λb o e=>(Heap.get?_update_other _ _ (Ne.symm (nS e))).trans (vZ _ e);refine wX (wpAny_letGo ?_);generalize (s.heap.push { cls:=.type "list",data:=.seq #[] }).update s.heap.objs.size (Obj.mapSeq (λ_=>(#[]:AV)))=g at Km U ⊢;have M:g.IsRevIter it l ((items.size:Int) - 1):=zr.at λo e=>U _ _ e;have Jq:g.IsList l items:=hl.at λo e=>U _ _ e;have W:=Walks.listRev (prog:=prog) (w:=w) (A:=A.in1.in1) hh it l D8 items;have MW:s.heap.objs.size∉[it,l]:=by simp only[mem_cons,not_mem_nil,or_false,not_or];exact⟨PQ.symm,R9.symm⟩
 unfold Builtin.List.listExtendWith;refine wX (wpAny_typeOf (T:="list_reverseiterator") (show Shared.TypeIs { s with heap:=g } _ _ from Heap.IsRevIter.typeIs (s:={ s with heap:=g }) M) ?_);rw[if_neg (by simp[Builtin.List.listSameRef,PQ.symm])];refine wX (wpAny_pyIter_revIter M ?_);refine wX (wpAny_holding (Fi (Heap.IsRevIter.typeIs (s:={ s with heap:=g }) M) ?_));rw[if_neg (by decide)];refine wY ⟨plainId_quiet PySem.F.plain_extend_loop _,codeAny_extend_loopS W.toS hn _ MW _ items.size 0 _ _ _ rfl (uN _) ⟨uN _,by rw[show(items.size:Int) - 1 - ((0:Nat):Int)=(items.size:Int) - 1 by omega];exact M,Jq⟩ Km (ItemsOf.nil _) λs' G c' hm Dz O=>?_⟩;refine⟨rfl,hQ s' G c' (λb o hb e=>hm.heap b o (λz=>?_) (U b o e)) hm.gens hm.os Dz ?_⟩
 ·simp only[mem_cons,not_mem_nil,or_false]at z;rcases z with z|z
  ·exact nS e z
  ·exact hb z
 ·apply ext_getElem?;intro i;by_cases hi:i<items.size
  ·obtain⟨v,hv⟩:∃v,G[i]? = some v:=⟨_,getElem?_eq_getElem (by rw[O.1];exact hi)⟩;rw[getElem?_toList,hv,List.getElem?_reverse (by simpa using hi)];have:=O.2 i v hv;simp only[vG,getElem?_toList];exact this.symm
  ·rw[getElem?_eq_none (by rw[vG,O.1];omega),getElem?_eq_none (by simp;omega)]
end
@[simp] noncomputable def Ig:D->OB
 |.lst ds=>some (.lst ds.reverse,true)
 |_=>none
def ba.rev (h:ba vs us):ba vs.reverse us.reverse:=by
 induction h with
 |nil=>exact .nil
 |cons r _ G=>rw[reverse_cons,reverse_cons];exact G.append (.cons r .nil)
def IsL.rev {K:Frag}{B:Hp}{vs:LV}:∀ {ds:LD},IsL K B vs ds->IsL K B vs.reverse ds.reverse:=by
 induction vs with
 |nil=>intro ds h;cases h;exact .nil
 |cons v vs G=>intro ds h;cases h with|cons h t=>rw[reverse_cons,reverse_cons];exact(G t).append (.cons h .nil)
section
variable {X:Cx}{e:Expr}{pos p pos2 p2:Pos}
def Ah (M:X.calm=true)(hl:X.mg "list" = none)(hm:X.mg "reversed" = none)(he:JE X e f)(W6:Gl X "list":=by rfl)(hg:Gl X "reversed":=by rfl)
  (hs:starEach [e] X.env=[(false,eval e X.env)]:=by rfl)
  (O:starEach [.Call (.Name "reversed" p2) [e] [] pos2] X.env=[(false,eval (.Call (.Name "reversed" p2) [e] [] pos2) X.env)]:=by rfl):
  JE X (.Call (.Name "list" p) [.Call (.Name "reversed" p2) [e] [] pos2] [] pos) (f1 Ig f):=by
 intro ae s σ H Q I q;obtain⟨B,ρ,d,bb,sB,r,ee,iB⟩:=q;obtain⟨⟨xd,xb⟩,ex,ee⟩:=oX ee;cases xd<;>try (cases ee;done)
 rename_i ds;cases ee
 refine wpAny_Call_Name_kw (gX I W6 hl vh ?_ (by decide) (by decide));refine PyProof.Rows.callWith_type1 ?_ (by rw[O];rfl) rfl;rw[O];show wpAny _ _ (spliced ((false,eval (.Call (.Name "reversed" p2) [e] [] pos2) X.env)::backTo pos [])) _ _ s;refine Calls.spliced_cons ?_;refine wpAny_Call_Name_kw (gX I hg hm Ag ?_ (by decide) (by decide));refine PyProof.Rows.callWith_type1 (cn (ah he ak hs pos2 ae s σ H (λvs H1=>∃N1,Ext B N1 H H1/\IsL X.K N1 vs [.lst ds]) I ⟨B,ρ,[.lst ds],sB,r,by simp[af,aj,ex],λvs H1 N1 G i1=>⟨N1,G,i1⟩⟩) λus s1 ⟨vs,H1,I1,r1,N1,G,il⟩=>?_) (by rw[hs];rfl) rfl;cases il with
 |cons j1 j2=>
  cases j2
  cases j1
  rename_i l ws h m1;obtain⟨u1,rfl,RV⟩:=gI r1;cases RV
  obtain⟨its,v1,pl,z1⟩:=I1.list (G.nh.seq h);have zq:l<s1.heap.objs.size:=by obtain⟨o,e0,_⟩:=pl.isList;exact vX e0
  refine call_reversed_list pl.isList ?_;refine Calls.spliced_nil ?_;have hsz:(s1.heap.push (revObj l ((its.toArray.size:Int) - 1))).objs.size=s1.heap.objs.size+1:=size_push' _ _;refine si (s:={ s1 with heap:=s1.heap.push (revObj l ((its.toArray.size:Int) - 1)) }) (I1.ok.hd M) (vS zq) ⟨_,vY _ rfl,rfl,rfl⟩ (pl.isList.push _) (by rw[vH,←v1.length];exact z1) λs' T c' hk hg' ho' hS U=>?_;have k1:∀b o,s1.heap.get? b=some o->s'.heap.get? b=some o:=λb o e0=>hk b o (vS (vX e0)) (vZ _ e0);have hp:H1 (s1.heap.objs.size+1)=none:=I1.hok.fresh (le_succ _);rw[hsz]at hS ⊢;have I2:=nq (s1:={ s1 with drawn:=s'.drawn }) I1 (λ_ _ e=>e) rfl rfl;have x2:=Ext.laid (o:=.lst ws.reverse) G.nh hp;obtain⟨h',g',d',Ju,T5⟩:=s';cases hg';cases ho'
  have il:=(IsL.rev m1).mono x2.bn;refine⟨.ref (s1.heap.objs.size+1),_,I2.laid (t':=Ju) k1 (le_succ _) (show bT X.prog X.w _ h' _ (.lst ws.reverse)from ⟨by rw[length_reverse];exact z1,T.toList,c',?_,hS⟩),rfl,iB _ _ _ (G.trans x2) (.lst (fT.of aC) il) λ_=>⟨_,_,_,rfl,rfl,G.hh.free hp,aC,il⟩⟩;rw[U];exact ba.rev v1
end
noncomputable def Nq (K:Frag)(G M:Addr):It :=
  ⟨λi H=>∃xs ys x y,fT K H G xs/\fT K H M ys/\xs[i]? = some x/\ys[i]? = some y,
   λi H v H'=>∃T x y,v=.ref T/\H T=none/\H'=upd H T (.tup [x,y])/\(∀xs,fT K H G xs->xs[i]? = some x)/\(∀ys,fT K H M ys->ys[i]? = some y),
   λi H=>∃xs ys,fT K H G xs/\fT K H M ys/\(xs.length<=i∨ys.length<=i)⟩
def CY {P:Program}{w:World}{K:Frag}{es:QD}{kt:Nat}{pt:Pos}{a1 a2 z TI TO i1 i2:Addr}(D:ZipApart z TI TO i1 i2 a1 a2):
  Turn P w K (.Tuple es kt pt) (Nq K a1 a2) [z,TI,TO,i1,i2] z (λi h=>IsZip h z TI TO .none/\IsPair h TI (.ref i1) (.ref i2)/\(∃a b,IsPair h TO a b)/\h.IsListIter i1 a1 i/\h.IsListIter i2 a2 i) where
 mem:=by simp
 obj:=λi h ⟨hz,M,⟨a,c,O⟩,⟨o1,T,_,d1⟩,⟨o2,U,_,d2⟩⟩ b hb=>by
  simp at hb;rcases hb with rfl|rfl|rfl|rfl|rfl
  ·exact⟨_,hz,λv z=>by cases z⟩
  ·exact⟨_,M,λv z=>by cases z⟩
  ·exact⟨_,O,λv z=>by cases z⟩
  ·exact⟨_,T,λv z=>by rw[d1]at z;cases z⟩
  ·exact⟨_,U,λv z=>by rw[d2]at z;cases z⟩
 keep:=λi h h' ⟨hz,M,⟨a,c,O⟩,T,U⟩ k=>⟨k z (by simp) _ hz,k TI (by simp) _ M,⟨a,c,k TO (by simp) _ O⟩,T.at λo e=>k i1 (by simp) o e,U.at λo e=>k i2 (by simp) o e⟩
 item:=by
  intro X hP hw hK hc i ae s σ H E I hf st hg;subst hP hw hK;obtain⟨hz,M,⟨a,c,O⟩,T,U⟩:=st;obtain⟨xs,ys,x,y,q1,q2,hx,hy⟩:=hg;obtain⟨its,r1,p1,_⟩:=I.list q1;obtain⟨D7,r2,p2,_⟩:=I.list q2;obtain⟨u,hu,ru⟩:=r1.get hx;obtain⟨v,hv,rv⟩:=r2.get hy;have lt:∀ {c o},s.heap.get? c=some o->c≠s.heap.objs.size:=λe=>vS (vX e);refine wpAny_pyNext_zip_item D hz M O T U p1.isList p2.isList (by simpa using hu) (by simpa using hv) λh' b1 b2 b3 b4 b5 b6 bk=>?_;refine⟨_,rfl,wpAny_letOwnedTupleGo_zip (s:={ s with heap:=h' }) b1 λh2 c1 s2=>?_⟩;have G:Heap.SameBut z h' h2:=s2;have kk:∀b o,b∉[z,TI,TO,i1,i2]->s.heap.get? b=some o->h2.get? b=some o:=λb o hb e=>
   G.extBut _ _ (λq=>hb (by simp[q])) (bk b o (λq=>hb (by simp[q])) (λq=>hb (by simp[q])) (λq=>hb (by simp[q])) (λq=>hb (by simp[q])) e)
  refine⟨.ref s.heap.objs.size,upd H s.heap.objs.size (.tup [x,y]),Ez (s:=s) (t':=s.toks) I hf kk (vT _) ⟨by show 2<=sizeLine;decide,[u,v],.cons ru (.cons rv .nil),⟨_,G.extBut _ _ (lt hz).symm b5,rfl,_,rfl⟩⟩,rfl,
   ⟨_,x,y,rfl,I.fresh,rfl,λzs hq=>by rw[I.list_inj hq q1];exact hx,λzs hq=>by rw[I.list_inj hq q2];exact hy⟩,
   ⟨c1,G.extBut _ _ D.TIz (bk _ _ D.TIz D.TITO D.TIi1 D.TIi2 M),⟨_,_,G.extBut _ _ D.TOz b2⟩,b3.at λo e=>G.extBut _ _ D.i1z e,b4.at λo e=>G.extBut _ _ D.i2z e⟩,λb hb=>?_⟩
  rw[aI]
  ·exact(hf b hb).1
  ·obtain⟨o1,e1,_⟩:=T;obtain⟨o2,e2,_⟩:=U;simp at hb;rcases hb with rfl|rfl|rfl|rfl|rfl
   ·exact lt hz
   ·exact lt M
   ·exact lt O
   ·exact lt e1
   ·exact lt e2
 done:=by
  intro X hP hw hK hc i ae s σ H E I hf st hg;subst hP hw hK;obtain⟨hz,M,⟨a,c,O⟩,T,U⟩:=st;obtain⟨xs,ys,q1,q2,hl⟩:=hg;obtain⟨its,r1,p1,_⟩:=I.list q1;obtain⟨D7,r2,p2,_⟩:=I.list q2;have n1:=r1.length;have n2:=r2.length;exact wpAny_pyNext_zip_end (I.ok.hd hc) D hz M O T U p1.isList p2.isList (hl.imp (λq=>by simp;omega) λq=>by simp;omega) λh' hk=>⟨rfl,ml (t':=s.toks) I hf λb o hb e=>hk b o (λq=>hb (by simp[q])) (λq=>hb (by simp[q])) (λq=>hb (by simp[q])) (λq=>hb (by simp[q])) e⟩
 self:=λ_ _ _ _ _ st h=>wpAny_pyIter_zip st.1 h
@[simp] def Fj (fa G:FE):FA:=λρ=>(fa ρ).bind λx=>(G ρ).bind λy=>match x.1,y.1 with
 |.lst xs,.lst ys=>some (CA xs ys)
 |_,_=>none
section
variable {X:Cx}{a b:Expr}{pos p:Pos}
def Ih (h1:fT X.K N l1 vs)(U:IsL X.K N vs ds)(h2:fT X.K N l2 ws)(i2:IsL X.K N ws es):nj X.K (Nq X.K l1 l2) N (CA ds es):=by
 intro i H' G;have n1:=U.length;have n2:=i2.length;refine⟨λd ed=>?_,λhl=>⟨vs,ws,G.seq h1,G.seq h2,?_⟩⟩
 ·unfold CA at ed;rw[List.getElem?_zipWith]at ed;cases M:ds[i]? with
  |none=>rw[M]at ed;simp at ed
  |some x=>
   cases e2:es[i]? with
   |none=>rw[M,e2]at ed;simp at ed
   |some y=>
    rw[M,e2]at ed;simp at ed;subst ed;obtain⟨v,ev,iv⟩:=U.get M;obtain⟨w,ew,iw⟩:=i2.get e2;refine⟨⟨vs,ws,v,w,G.seq h1,G.seq h2,ev,ew⟩,λr H2 hy=>?_⟩;obtain⟨T,v',w',rfl,hT,rfl,f1,f2⟩:=hy;have e3:=f1 vs (G.seq h1);have e4:=f2 ws (G.seq h2);rw[ev]at e3;cases e3;rw[ew]at e4;cases e4;have O:=Ext.laid (o:=.tup [v,w]) G hT;exact⟨_,O,.tup (iY.of aC) (.cons (iv.mono O.bn) (.cons (iw.mono O.bn) .nil))⟩
 ·unfold CA at hl;rw[List.length_zipWith]at hl;omega
def Ii {es:QD}{kt:Nat}{pt:Pos}{fa fb:FE}(hm:X.mg "zip" = none)(ha:JE X a fa)(hb:JE X b fb)(hg:Gl X "zip":=by rfl)(hs:starEach [a,b] X.env=[(false,eval a X.env),(false,eval b X.env)]:=by rfl)(G:starEach [b] X.env=[(false,eval b X.env)]:=by rfl):
  JI X (.Tuple es kt pt) (.Call (.Name "zip" p) [a,b] [] pos) (Fj fa fb):=by
 intro ae s σ H R I q;obtain⟨B,ρ,ds,sB,r,ee,q⟩:=q;obtain⟨⟨xd,xb⟩,ex,e1⟩:=oX ee;obtain⟨⟨yd,yb⟩,ey,e2⟩:=oX e1;clear e1 ee;cases xd<;>try (cases e2;done)
 cases yd<;>try (cases e2;done)
 rename_i xs ys;cases e2
 refine Call_ (gX I hg hm Oj (PyProof.Rows.callWith_type1 (cn (ah ha (ah hb ak G) (by rw[hs,G]) pos ae s σ H (λvs O=>∃N1,Ext B N1 H O/\IsL X.K N1 vs [.lst xs,.lst ys]) I ⟨B,ρ,[.lst xs,.lst ys],sB,r,by simp[af,aj,ex,ey],λvs O N1 T i1=>⟨N1,T,i1⟩⟩) λus s1 ⟨vs,O,I1,r1,N1,T,il⟩=>?_) (by rw[hs,G]) (by rw[G];rfl)));cases il with
 |cons j1 j2=>
  cases j2 with
  |cons j2 j3=>
   cases j3;cases j1;cases j2
   rename_i l1 us1 h1 m1 l2 us2 h2 m2;obtain⟨u1,u2,rfl,RV,W7⟩:=r1.two;cases RV
   cases W7
   obtain⟨its,_,U,_⟩:=I1.list (T.nh.seq h1);obtain⟨D7,_,p2,_⟩:=I1.list (T.nh.seq h2);have M:∀ {l:Addr}{items:AV}(n:Nat),s1.heap.IsList l items->l≠s1.heap.objs.size+n:=λn ⟨o,e,_⟩=>vS (vQ (vX e) (le_add_right _ n));have ne:∀ {i j:Nat},i≠j->s1.heap.objs.size+i≠s1.heap.objs.size+j:=λh e=>h (Nat.add_left_cancel e);refine call_zip_2 U.isList p2.isList λh' c1 c2 c3 c4 c5 _ ck=>?_;refine wpAny_pyIter_zip c1 ⟨s1.heap.objs.size+4,[s1.heap.objs.size+4,s1.heap.objs.size+2,s1.heap.objs.size+3,s1.heap.objs.size,s1.heap.objs.size+1],_,_,O,rfl,I1.kept (t':=s1.toks) ck,
    CY ⟨ne (by decide),ne (by decide),ne (i:=0) (by decide),ne (by decide),ne (by decide),ne (j:=0) (by decide),ne (by decide),ne (j:=0) (by decide),ne (by decide),ne (i:=0) (by decide),M 4 U.isList,M 3 U.isList,M 0 U.isList,M 1 U.isList,M 4 p2.isList,M 3 p2.isList,M 0 p2.isList,M 1 p2.isList⟩,⟨c1,c2,⟨_,_,c3⟩,c4,c5⟩,λb hb=>?_,q _ O N1 T (Ih h1 m1 h2 m2)⟩
   have Js:s1.heap.objs.size<=b:=by
    simp at hb;rcases hb with rfl|rfl|rfl|rfl|rfl
    ·exact le_add_right _ 4
    ·exact le_add_right _ 2
    ·exact le_add_right _ 3
    ·exact vT _
    ·exact le_add_right _ 1
   exact I1.fpOk Js (I1.hok.fresh Js)
end
def sj (items:AV):slicePick items none none (some (-1))=items.toList.reverse.toArray:=by
 have hb:sliceBounds none none (some (-1)) items.size=((items.size:Int) - 1,-1,-1):=rfl;have hr:sliceRange ((items.size:Int) - 1) (-1) (-1)=(List.range items.size).reverse:=by
  unfold sliceRange;have hc:(if(-1:Int) > 0 then (if(items.size:Int) - 1 < -1 then (-1 - ((items.size:Int) - 1) + -1 - 1) / -1 else 0)else (if(items.size:Int) - 1 > -1 then ((items.size:Int) - 1 - -1 - -1 - 1) / (- -1)else 0))=items.size:=by
   rw[if_neg (by decide)];split
   ·show((items.size:Int) - 1 - -1 - -1 - 1) / 1=_;rw[Int.ediv_one];omega
   ·omega
  dsimp only;rw[hc,toNat_natCast];refine List.ext_getElem (by simp) λi h1 h2=>?_;simp only[vI,length_range,length_reverse]at h1 h2;simp only[List.getElem_map,getElem_range,List.getElem_reverse,length_range];omega
 unfold slicePick;rw[hb];dsimp only;rw[hr,List.filterMap_reverse];have:=pick_run items 0 items.size;rw[List.drop_zero,take_of_length_le (by simp)]at this;rw[show(List.range items.size)=(List.range items.size).map (0 + ·) by simp,this]
section
variable {X:Cx}{e:Expr}{pos:Pos}
@[simp] noncomputable def P4 (fa:FE):FE:=λρ=>(fa ρ).bind λx=>match x.1 with
 |.lst ds=>some (.lst ds.reverse,true)
 |_=>none
def O2 {fa:FE}{p2 p3 p4:Pos}(ha:JE X e fa):JE X (.Subscript e (.Slice none none (some (.UnaryOp .USub (.Constant (.int 1) j p3) p4)) p2) pos) (P4 fa):=by
 intro ae s σ H Q I h;obtain⟨B,ρ,d,b,sB,r,M,q⟩:=h;obtain⟨x,ex,M⟩:=oX M;refine Subscript_ (cn (ha ae s σ H (λv O=>∃N1,Ext B N1 H O/\Is X.K N1 v x.1) I ⟨B,ρ,x.1,x.2,sB,r,ex,λv O N1 G T _=>⟨N1,G,T⟩⟩) λv s1 ⟨y,O,I1,r1,N1,G,T⟩=>?_);refine wpAny_Slice ?_;rw[evalPart_none];refine wY (wY ?_);refine cn (A7 (Jz DG DA) ae s1 σ O (λo H'=>o=some (-1)/\H'=O) I1 ⟨1,rfl,-1,rfl,rfl,rfl⟩) λvs s2 ⟨o,H2,I2,ps,e1,e2⟩=>?_;subst e1 e2;have U:Inv X ae σ H2 { s2 with heap:=s2.heap.push { cls:=.type "slice",data:=.fields #[.none,.none,vs] } }:=I2.kept (t':=s2.toks) λb ob q=>vZ _ q;obtain⟨xd,xb⟩:=x;dsimp only at M T;cases T with
 |@lst a us ds hs hv=>
  cases M
  cases r1
  obtain⟨its,rr,ht,hz⟩:=U.list (G.nh.seq hs);refine tail_any (ops:=[.ref a,.ref s2.heap.objs.size]) ht.isList.typeIs slot_list_getitem.lookup (wpAny_getItem_list_slice ht.isList (Heap.IsSliceOf.new ..) .none .none ps (by simp) ?_ (by rw[vH,←rr.length];exact hz)) (by with_unfolding_all rfl);rw[sj];have hp:=U.hok.fresh (vT _);have la:=Ext.laid (o:=.lst us.reverse) G.nh hp;refine⟨.ref _,_,U.laid (t':=s2.toks) (o:=.lst us.reverse) (λb ob q=>vZ _ q) (vT _) ?_,rfl,q _ _ _ (G.trans la) (.lst (fT.of aC) (hv.reverse.mono la.bn)) λ_=>⟨_,_,_,rfl,rfl,G.hh.free hp,aC,hv.reverse.mono la.bn⟩⟩;exact⟨by rw[length_reverse];exact hz,_,0,ba.reverse rr,vY _ rfl⟩
 |_=>cases M
end
@[simp] def yk (i:Nat)(fa:FA):FS:=λρ=>(fa (fE ρ)).bind λds=>if ds.length<=sizeLine then some (.nx (ρ.set i (some (.lst ds,true))))else none
@[simp] def jm (i:Nat)(f:FE):FS:=λρ=>match ρ[i]? with
 |some (some (.lst ds,true))=>(f (fE ρ)).bind λx=>if ds.length<sizeLine then some (.nx (ρ.set i (some (.lst (ds++[x.1]),true))))else none
 |_=>none
def eB.newList {K:Frag}(s:eB K B0 H0 N H σ ρ)(i:Nat)(hp:H p=none)(hb:Bx K (dz N (own σ ρ)) ob dd):eB K B0 H0 (upd N p ob) (upd H p ob) (σ.set i (some (.ref p))) (ρ.set i (some (dd,true))):=by
 have x:=Ext.laid (o:=ob) s.ext.nh hp;have s1:=s.grow x;have G:N p=none:=s.ext.nh.free hp;have M:¬own σ ρ p:=λz=>by obtain⟨T,⟨q,_⟩,_⟩:=s.owned z;rw[G]at q;cases q
 have c:bc (dz N (own σ ρ)) (dz (upd N p ob) (λb=>own σ ρ b∨b=p)):=dL λb u e q=>⟨x.bn _ _ e,λz=>z.elim q λz=>by subst z;rw[G]at e;cases e⟩;refine s1.bindOwn aC (s.ext.hh.free hp) (λj e q z=>M ⟨j,e,q,z⟩) (λj e _ q=>?_) (λj e _ q=>?_) (hb.mono c)
 ·obtain⟨w,h1,h2⟩:=s.sh j e q;exact⟨w,h1,h2.mono c⟩
 ·obtain⟨O,o',h1,h2,_,h4⟩:=s.ow j e q;exact⟨O,o',h1,x.bn _ _ h2,h4.mono c⟩
def Fk {K:Frag}(q:lV K (yk i fa) E σ H):wS (NC (Ln K fa)) (ja i) E σ H:=by
 obtain⟨B0,H0,ρ,r,⟨N,s⟩,e,p⟩:=q;obtain⟨ds,M,e⟩:=oX e;split at e
 ·rename_i hz;cases e
  refine⟨dz N (own σ ρ),fE ρ,ds,bJ.trans s.ext.nh,s.repH,M,λvs U N1 O G=>⟨by rw[G.length];exact hz,λt T=>?_⟩⟩;obtain⟨s1,c⟩:=s.growH O;exact p _ _ ⟨_,s1.newList i T (.lst (G.mono c))⟩
 ·cases e
def Fl {K:Frag}(q:lV K (jm i f) E σ H):∃(a:Addr)(us:LV),σ[i]? = some (some (V.ref a))/\H a=some (.lst us)/\DM (tD K f) KZ σ H λxs H2=>u6 (.ref a) xs H2 λ_ O=>E.nx σ O:=by
 obtain⟨B0,H0,ρ,r,⟨N,s⟩,e,p⟩:=q;unfold jm at e;split at e
 ·rename_i ds ei;obtain⟨x,ex,e⟩:=oX e;split at e
  ·rename_i hx;cases e
   obtain⟨a,vs,G,z,h1,h2,h3,h4⟩:=s.owL i _ ei;cases z
   refine⟨a,vs,h1,s.ext.nh _ _ h2,dz N (own σ ρ),fE ρ,x.1,x.2,bJ.trans s.ext.nh,s.repH,ex,λv H1 N1 M T _=>⟨a,vs,v,rfl,rfl,M.hh _ _ (s.ext.nh _ _ h2),by rw[h4.length];exact hx,?_⟩⟩;obtain⟨s1,c⟩:=s.growH M;obtain⟨a',U,G,z,k1,k2,_,k4⟩:=s1.owL i _ ei;cases z
   rw[h1]at k1;cases k1;rw[eM _ _ h2]at k2;cases k2;exact p σ _ ⟨_,s1.write ei h1 (k4.append (.cons (T.mono c) .nil))⟩
  ·cases e
 ·cases e
section
variable {X:Cx}{e:Expr}{pos:Pos}
def Ij {es:QD}{fa:FA}(G:X.N.Nodup)(he:JA X es fa)(hi:X.N[i]? = some x:=by rfl)(hx:D9 X.env.scope x:=by first|exact Or.inl rfl|exact Or.inr rfl)(hs:swapsWith (.List es p2) (some (.Name x p)) pos.line X.env=pure false:=by rfl)
  (hf:X.fn x=true∨X.env.scope.names.lookup x=some .local:=by first|exact .inl rfl|exact .inr rfl):JS X (.Assign [.Name x p] (.List es p2) pos) (yk i fa):=PS.to (pz G hi hx (DN he) hs hf) λ_ _ _ q=>Fk q
def oU (he:JE X e f)(U:PE X (.Name x p) (oB i):=by exact pv)
  (G:attributeBase (.Name x p) "append" X.env (eval (.Name x p) X.env)=eval (.Name x p) X.env:=by rfl)
  (O:((backTo cx (starEach [e] X.env)).all (λx=>!x.1) && (backToKw cx (keywordEach [] X.env)).all (λx=>x.1.isSome)
   && decide ([e].length+([]:List Keyword).length+(if([]:List Keyword).isEmpty then 0 else 1)<30))=true:=by rfl)
  (M:(di.endLine == cx.line)=true:=by rfl) (hs:starEach [e] X.env=[(false,eval e X.env)]:=by rfl) (T:swapsWith (.Call (.Attribute (.Name x p) "append" di) [e] [] cx) none pos.line X.env=pure false:=by rfl):
  JS X (.Expr (.Call (.Attribute (.Name x p) "append" di) [e] [] cx) pos) (jm i f):=by
 refine PS.to (A3 (A9 PySem.F.plainAttrs_list PySem.F.slot_list_append PySem.F.type_list_append nc U (gN he jy hs) G O M hs rfl) T) λE σ H q=>?_;obtain⟨a,us,h1,h2,k⟩:=Fl q;exact⟨_,h1,.inl ⟨rfl,us,fT.of h2⟩,k⟩
end
end DL
namespace DL
open PySem L2
def eW (I:Nat->Env->Prop)(ds:LD)(M:Env)(h0:I 0 M)
  (step:∀i d ρ,ds[i]? = some d->I i ρ->∃G ρ',tg d ρ=some G/\(g G=some (.nx ρ')∨g G=some (.ct ρ'))/\I (i+1) ρ'):
  ∃ρ',gw tg g ds M=some (.nx ρ')/\I ds.length ρ':=by
 have O:∀(es:LD)(i:Nat)(ρ:Env),ds.drop i=es->i+es.length=ds.length->I i ρ->∃ρ',gw tg g es ρ=some (.nx ρ')/\I ds.length ρ':=by
  intro es;induction es with
  |nil=>intro i ρ e hl h;refine⟨ρ,by rw[xi],?_⟩;rw[←hl];exact h
  |cons d es U=>
   intro i ρ e hl h;have hd:ds[i]? = some d:=by
    have:(ds.drop i)[0]? = some d:=by rw[e];rfl
    rwa [getElem?_drop,Nat.add_zero]at this
   obtain⟨G,ρ',h1,h2,h3⟩:=step i d ρ hd h;have he:ds.drop (i+1)=es:=by rw[←List.drop_drop,e];rfl
   obtain⟨T,k1,k2⟩:=U (i+1) ρ' he (by simp at hl;omega) h3;refine⟨T,?_,k2⟩;rw[kL,h1];rcases h2 with h2|h2<;>simp only[vJ,h2]<;>exact k1
 exact O ds 0 M (by simp) (by simp) h0
def mw (n:Nat)(I:Nat->Env->Prop)(G:Env)(h0:I 0 G)
  (step:∀(i:Nat) ρ,i<n->I i ρ->∃M ρ',tg (.int (i:Int)) ρ=some M/\(g M=some (.nx ρ')∨g M=some (.ct ρ'))/\I (i+1) ρ'):
  ∃ρ',gw tg g (dP 0 n) G=some (.nx ρ')/\I n ρ':=by
 have hl:(dP 0 n).length=n:=by simp[dP]
 obtain⟨ρ',h1,h2⟩:=eW (tg:=tg) (g:=g) I (dP 0 n) G h0 λi d ρ hd h=>by
  unfold dP at hd;rw[vA]at hd;obtain⟨k,hk,hd⟩:=oY hd;obtain⟨O,hk⟩:=vV hk;rw[length_range]at O;rw[getElem_range]at hk;subst hk;rw[Int.zero_add]at hd;subst hd;exact step i ρ O h
 rw[hl]at h2;exact⟨ρ',h1,h2⟩
def ki {α:Type}{xs:List α}{j:Nat}(h:j<xs.length):nR xs (j:Int)=some xs[j]:=GO (by simp[h])
def wn {α:Type}{xs:List α}{i:Int}(h0:0<=i)(h:i.toNat<xs.length):nR xs i=some xs[i.toNat]:=by
 have:=ki h;rwa [Int.toNat_of_nonneg h0]at this
@[simp] def JY (xs:LI):bH (xs.map D.int)=true:=by
 induction xs with
 |nil=>simp
 |cons x xs G=>simp[G]
@[simp] def G2 (n:Nat)(xs:LI):(xs.map D.int).all (aO n)=true:=by
 induction xs with
 |nil=>simp
 |cons x xs G=>simpa using G
@[simp] def Ik (xs:LI):(xs.map D.int).all gy=true:=by
 induction xs with
 |nil=>simp
 |cons x xs G=>simpa using G
def CZ (n:Nat):dP 0 n=((List.range n).map λ(k:Nat)=>(k:Int)).map D.int:=by
 unfold dP;rw[uP];apply List.map_congr_left;intro k _;simp
mutual
def mz:D->D->Bool
 |.non,.non=>true
 |.bl a,.bl b=>a == b
 |.int a,.int b=>decide (a=b)
 |.str a,.str b=>decide (a=b)
 |.ty a,.ty b=>decide (a=b)
 |.tup xs,.tup ys=>qt xs ys
 |.lst xs,.lst ys=>qt xs ys
 |_,_=>false
def qt:LD->LD->Bool
 |[],[]=>true
 |x::xs,y::ys=>mz x y && qt xs ys
 |_,_=>false
end
mutual
theorem Bq:∀ {x y:D},mz x y=true->x=y
 |.non,.non,_=>rfl
 |.bl a,.bl b,h=>by simp[mz]at h;rw[h]
 |.int a,.int b,h=>by simp[mz]at h;rw[h]
 |.str a,.str b,h=>by simp[mz]at h;rw[h]
 |.ty a,.ty b,h=>by simp[mz]at h;rw[h]
 |.tup xs,.tup ys,h=>by rw[mz]at h;rw[qu h]
 |.lst xs,.lst ys,h=>by rw[mz]at h;rw[qu h]
theorem qu:∀ {xs ys:LD},qt xs ys=true->xs=ys
 |[],[],_=>rfl
 |x::xs,y::ys,h=>by
  rw[qt,vC]at h;rw[Bq h.1,qu h.2]
end
def QL (r:OB)(d:D)(b:Bool):Bool:=match r with
 |some (e,c)=>mz e d && c == b
 |none=>false
def Fm (h:QL r d b=true):r=some (d,b):=by
 unfold QL at h;split at h
 ·rw[vC]at h;rw[Bq h.1,eq_of_beq h.2]
 ·cases h
section
variable {f:FE}{c:FT}{g g' h:FS}{ρ ρ':Env}{i:Nat}{d:D}{b:Bool}{r:Option Res}{ds:LD}
def av (hl:ds.length=n)(e:g (ds.map (λd=>some (d,false))++List.replicate k none)=some (.rt d b)):aL g n k ds=some (d,b):=by
 unfold aL;rw[if_pos hl,e]
def tR (n:bx d=true):setE ρ i d b=ρ.set i (some (d,false)):=by unfold setE;rw[if_pos n]
def ym (n:bH ds=true):setE ρ i (.lst ds) true=ρ.set i (some (.lst ds,true)):=by
 unfold setE;rw[if_neg (by simp),if_pos ⟨rfl,by simpa using n⟩]
def Il (n:bx d=false)(m:b=false∨xg d=false):setE ρ i d b=(unown ρ).set i (some (d,false)):=by
 unfold setE;have hz:¬(b=true/\xg d=true):=λz=>by
  rcases m with m|m
  ·rw[m]at z;exact absurd z.1 (by decide)
  ·rw[m]at z;exact absurd z.2 (by decide)
 rw[if_neg (by simp[n]),if_neg hz]
def Fo (e:f ρ=some (d,b))(k:h (setE ρ i d b)=r):ay (aK i f) h ρ=r:=by simp[e];exact k
def Fp (e:f ρ=some (d,b))(n:bx d=true)(k:h (ρ.set i (some (d,false)))=r):ay (aK i f) h ρ=r:=Fo e (by rw[tR n];exact k)
def cj (e:f ρ=some (.lst ds,true))(n:bH ds=true)(k:h (ρ.set i (some (.lst ds,true)))=r):ay (aK i f) h ρ=r:=Fo e (by rw[ym n];exact k)
def Db (e:f ρ=some (d,b))(n:bx d=false)(m:b=false∨xg d=false)(k:h ((unown ρ).set i (some (d,false)))=r):ay (aK i f) h ρ=r:=Fo e (by rw[Il n m];exact k)
def cz (e:g ρ=some (.nx ρ'))(k:h ρ'=r):ay g h ρ=r:=by unfold ay;rw[e];exact k
def QM (e:g ρ=some (.rt d b)):ay g h ρ=some (.rt d b):=by unfold ay;rw[e]
def QN (e:g ρ=some (.ct ρ')):ay g h ρ=some (.ct ρ'):=by unfold ay;rw[e]
def jP (e:c ρ=some true)(k:g ρ=r):dI c g g' ρ=r:=by unfold dI;rw[e];exact k
def kj (e:c ρ=some false)(k:g' ρ=r):dI c g g' ρ=r:=by unfold dI;rw[e];exact k
def O3 (e:c ρ=some x)(G:x=true->g ρ=r)(M:x=false->g' ρ=r):dI c g g' ρ=r:=by
 cases x with
 |true=>exact jP e (G rfl)
 |false=>exact kj e (M rfl)
def bq (e:c ρ=some true)(k:g ρ=some (.rt d b)):ay (dI c g g') h ρ=some (.rt d b):=QM (jP e k)
def a9 (e:c ρ=some false)(k:h ρ=r):ay (dI c g bg) h ρ=r:=cz (kj e rfl) k
def ax (e:f ρ=some (d,b)):aQ f ρ=some (.rt d b):=by simp[e]
def oV (e:ρ[i]? = some (some (d,b)))(hb:JD d=false:=by rfl):je i ρ=some (.rt d b):=by simp only[je,e,hb];simp
def m4 (e:f ρ=some (d,b))(n:bx d=true):aK i f ρ=some (.nx (ρ.set i (some (d,false)))):=by
 show(f ρ).map _=_;rw[e,map_some,tR n]
def wo (e:f ρ=some (.lst ds,true))(n:bH ds=true):aK i f ρ=some (.nx (ρ.set i (some (.lst ds,true)))):=by
 show(f ρ).map _=_;rw[e,map_some,ym n]
def iR (e:ρ[i]? = some (some (.lst ds,true)))(G:f ρ=some (d,b))(n:bx d=true)(l:ds.length<sizeLine):i6 i f ρ=some (.nx (ρ.set i (some (.lst (ds++[d]),true)))):=by
 simp[e,G,n,l]
def Br (e:ρ[i]? = some (some (.lst ds,true)))(G:f ρ=some (d,b))(n:bx d=true)(l:ds.length<sizeLine)(k:h (ρ.set i (some (.lst (ds++[d]),true)))=r):ay (i6 i f) h ρ=r:=cz (iR e G n l) k
def m5 (e:fi ρ=some ds)(k:gw tg g ds ρ=some (.nx ρ')):jK fi tg g ρ=some (.nx ρ'):=by unfold jK;rw[e];exact k
def iF (e:fi (fE ρ)=some ds)(k:gw tg g ds ρ=some (.nx ρ')):jz fi tg g ρ=some (.nx ρ'):=by unfold jz;rw[e];exact k
def gU {f:FE}{j:Nat}(e:f ρ=some (.int j,b))(hj:j<=1000):fu f ρ=some (dP 0 j):=by
 unfold fu;rw[e];simp only[];rw[if_pos (by omega)];simp
def Md (e:f ρ=some (.bl x,b)):bj f ρ=some x:=by unfold bj;rw[e]
def Bt (e:fa ρ=some ds)(k:F ds=x):fA F fa ρ=x:=by unfold fA;rw[e,vJ];exact k
def yn {f1 g1:D->D->OB}{fa G M:FE}{x y z:D}{b1 b2 b3 b4 p q:Bool}(O:fa ρ=some (x,b1))(T:G ρ=some (y,b2))(U:M ρ=some (z,b3))(e1:f1 x y=some (.bl p,b4))(e2:p=true->g1 y z=some (.bl q,false)):j0 f1 g1 fa G M ρ=some (.bl (p && q),false):=by
 unfold j0;rw[O,T,U];simp only[vJ,e1];cases p
 ·rfl
 ·exact e2 rfl
def dB {f1 f2:FE}{p q b1:Bool}(G:f1 ρ=some (.bl p,b1))(e2:p=true->f2 ρ=some (.bl q,false)):jS f1 f2 ρ=some (.bl (p && q),false):=by
 unfold jS;rw[G];cases p
 ·rfl
 ·exact e2 rfl
def qw {f1 f2:FE}{p q b1:Bool}(G:f1 ρ=some (.bl p,b1))(e2:p=false->f2 ρ=some (.bl q,false)):Lu f1 f2 ρ=some (.bl (p || q),false):=by
 unfold Lu;rw[G];cases p
 ·exact e2 rfl
 ·rfl
def aD (G:f ρ=some (d,b))(e2:fr ρ=some xs):af f fr ρ=some (d::xs):=by
 unfold af;rw[G,vJ,e2,vJ]
def fW (G:fa ρ=some (x,b1))(e2:fb ρ=some (y,b2))(M:op x y=z):f2 op fa fb ρ=z:=by
 unfold f2;rw[G,vJ,e2,vJ];exact M
def fN (G:c1 ρ=some p)(e2:p=true->c2 ρ=some q):fG c1 c2 ρ=some (p && q):=by
 unfold fG;rw[G];cases p
 ·rfl
 ·exact e2 rfl
def bV (G:c1 ρ=some p)(e2:p=false->c2 ρ=some q):gY c1 c2 ρ=some (p || q):=by
 unfold gY;rw[G];cases p
 ·exact e2 rfl
 ·rfl
def bI (G:c1 ρ=some p):dC c1 ρ=some (!p):=by
 unfold dC;rw[G];rfl
end
def P5 (a c:Nat):decide ([a]<[c])=decide (a<c):=by
 congr 1;rw[cons_lt_cons_iff];simp
@[simp] def P6 (a c:Nat):zk (.str ⟨#[a]⟩) (.str ⟨#[c]⟩)=some (.bl (decide (a<=c)),false):=by
 unfold zk;show some (D.bl (!decide ([c]<[a])),false)=_;rw[P5];congr 3;by_cases h:c<a
 ·rw[sv h,MO (by omega)];rfl
 ·rw[MO h,sv (by omega)];rfl
def bD (h:n<=100000):n<sizeLine:=lt_of_le_of_lt h (by decide)
def cZ (h:n<=100000):n<=sizeLine:=le_of_lt (bD h)
def g9 {α:Type}(l:List α)(g:α->D)(p:α->Bool)(h:α->D)(e:fi ρ=some (l.map g))(hl:l.length<=100000)
  (k:∀x∈l,∃G,tg (g x) (dN nT cap ρ)=some G/\c G=some (p x)/\(p x=true->∃b,fe G=some (h x,b))):bK fi nT cap tg c fe ρ=some (.lst ((l.filter p).map h),true):=by
 have T:∀M:List α,(∀x∈M,x∈l)->gJ tg c fe (dN nT cap ρ) (M.map g)=some ((M.filter p).map h):=by
  intro M;induction M with
  |nil=>intro _;simp
  |cons x M O=>
   intro hm;obtain⟨G,h1,h2,h3⟩:=k x (hm x mX);have O:=O λy hy=>hm y (mZ _ hy);rw[uY,zE,h1,vJ,h2,vJ];cases hp:p x with
   |false=>simp[hp,O]
   |true=>
    obtain⟨b,h4⟩:=h3 hp;simp[hp,O,h4]
 unfold bK;rw[e,vJ,if_pos (cZ (by simpa using hl)),T l λ_ h=>h,map_some]
def km {α:Type}(l:List α)(g:α->D)(h:α->D)(e:fi ρ=some (l.map g))(hl:l.length<=100000)
  (k:∀x∈l,∃G,tg (g x) (dN nT cap ρ)=some G/\∃b,fe G=some (h x,b)):bK fi nT cap tg fH fe ρ=some (.lst (l.map h),true):=by
 have:=g9 (c:=fH) (fe:=fe) l g (λ_=>true) h e hl λx hx=>by
  obtain⟨G,h1,h2⟩:=k x hx;exact⟨G,h1,rfl,λ_=>h2⟩
 rw[List.filter_eq_self.mpr λ_ _=>rfl]at this;exact this
@[simp] def qx {α:Type}(f:α->Bool)(l:List α):pH (l.map λx=>.bl (f x))=some (l.map f):=by
 induction l with
 |nil=>rfl
 |cons x l G=>simp[G]
def z8 (h0:0<=i)(h:i.toNat<z.cps.size)(hz:z.length<=100000):bB (.str z) (.int i)=some (.str ⟨#[z.cps.toList.getD i.toNat 0]⟩,false):=by
 have hh:i.toNat<z.cps.toList.length:=by simpa using h
 simp only[bB];rw[if_pos (cZ hz),wn h0 hh];simp[List.getD,h]
def wt (h0:0<=i)(h:i.toNat<ds.length):bB (.lst ds) (.int i)=some (ds.getD i.toNat .non,false):=by
 simp only[bB];rw[wn h0 h];simp[List.getD,h]
def p5 (h0:0<=i)(h:i.toNat<ds.length):bB (.tup ds) (.int i)=some (ds.getD i.toNat .non,false):=by
 simp only[bB];rw[wn h0 h];simp[List.getD,h]
def wu {xs:LI}{i:Int}(h0:0<=i)(h:i.toNat<xs.length):bB (.lst (xs.map .int)) (.int i)=some (.int (xs.getD i.toNat 0),false):=by
 rw[wt h0 (by simpa using h)];simp[List.getD,h]
def mod_lt {x m:Int}(hm:0<m):0<=x % m/\x % m<m:=⟨Int.emod_nonneg _ (by omega),Int.emod_lt_of_pos _ hm⟩
def Im:df [.lst ds]=some (.int ds.length,false):=rfl
def Bu:dJ (.int i) (.int j)=some (.bl (decide (i=j)),false):=by simp
def m6 (h:0<=v):HT.eD n d (some v)=min v.toNat n:=by
 show(if v<0 then (v+(n:Int)).toNat else min v.toNat n)=_;rw[if_neg (by omega)]
def bo (x y:D)(G:fa ρ=some (x,false))(e2:fb ρ=some (y,false))(M:op x y=z):f2 op fa fb ρ=z:=fW G e2 M
def cI (e:f ρ=some (.bl x,false)):bj f ρ=some x:=Md e
def bR (G:f ρ=some (d,false))(e2:fr ρ=some xs):af f fr ρ=some (d::xs):=aD G e2
def aG (ds:LD)(e:fa ρ=some ds)(k:F ds=x):fA F fa ρ=x:=Bt e k
def fF (d:D)(e:f ρ=some (d,false))(n:bx d=true)(k:h (ρ.set i (some (d,false)))=r):ay (aK i f) h ρ=r:=Fp e n k
@[simp] noncomputable abbrev XG (ab:LD)(aa:Int)(t:Env):Env:=some (.tup ab,false)::some (.int aa,false)::t
@[simp] noncomputable abbrev eR (ns:LI)(zs:LS)(M:Int)(G:LS)(R:LD)(a b:OB)(t:Env):Env:=some (.lst (ns.map .int),false)::some (.lst (zs.map .str),false)::some (.int M,false)::a::some (.lst (G.map .str),true)::some (.lst R,true)::b::t
end DL
namespace Lw
open PySem DL
noncomputable def yo:D:=(.tup [(.str "paper"),(.str "like"),(.str "copy")])
noncomputable def gO:List (PySem.Str×D):=[(("root" : Str),(.tup [(.str "office"),(.str "matters"),(.str "further"),(.str "rule")])),(("named" : Str),(.tup [(.str "day"),(.str "office"),(.str "person")])),(("chosen" : Str),(.tup [(.str "day"),(.str "by"),(.str "office"),(.str "person"),(.str "since")])),(("heir" : Str),(.tup [(.str "day"),(.str "by"),(.str "office"),(.str "person")])),(("death" : Str),(.tup [(.str "day"),(.str "person")])),(("lost" : Str),(.tup [(.str "day"),(.str "person")])),(("found" : Str),(.tup [(.str "day"),(.str "person")])),(("leave" : Str),(.tup [(.str "day"),(.str "by"),(.str "person"),(.str "matters"),(.str "stretch"),(.str "further")])),(("paper" : Str),(.tup [(.str "day"),(.str "by"),(.str "matters"),(.str "stretch"),(.str "whom"),(.str "pieces")])),(("like" : Str),(.tup [(.str "day"),(.str "by"),(.str "matters"),(.str "stretch"),(.str "whom"),(.str "of"),(.str "changes")])),(("copy" : Str),(.tup [(.str "day"),(.str "by"),(.str "of")])),(("call" : Str),(.tup [(.str "day"),(.str "by"),(.str "of")]))]
noncomputable def hZ:D:=(.tup [(.str "chosen"),(.str "heir"),(.str "leave"),(.str "paper"),(.str "like"),(.str "copy"),(.str "call")])
def tS:FS :=
  (aQ (f2 bB (cH 0 1) (fI 0)))
def aM:=aL tS 1 0
def tT:FS :=
  (aQ (f2 bB (cH 0 1) (f2 be (fI 1) (f2 (oG gO) (fA aM (fV 0 aj)) (ai 1)))))
def au:=aL tT 2 0
def yp:FS :=
  (ay (dI (bj (f2 dJ (fA aM (fV 0 aj)) (fS "root"))) (aQ (fC .non)) bg)
  (aQ (fA au (fV 0 (af (fS "day") aj)))))
def aS:=aL yp 1 0
def Bv:FS :=
  (aQ (bK (E4 (ai 0)) 2 [1] (JP [0,1]) (bj (f2 zk (cH 1 0) (ai 2))) (ai 0)))
def cA:=aL Bv 2 0
def Fq:FS :=
  (aQ (fA aW (af (fA aS (af (f2 bB (ai 0) (ai 1)) aj)) (fV 1 aj))))
def fx:=aL Fq 2 0
def qy:FS :=
  (ay (aK 2 (bK (bP (fA cA (fV 0 (fV 1 aj)))) 1 [0] (cC 0) (bj (f2 lA (fA aS (af (f2 bB (ai 1) (ai 0)) aj)) (fC .non))) (ai 0)))
  (aQ (qc (ai 2) (pY [0] (fA fx (fV 1 (fV 0 aj)))))))
def dR:=aL qy 2 1
def oe:FS :=
  (aQ (fA aW (af (cH 0 0) (af (cH 0 2) (af (cH 0 4) aj)))))
def gA:=aL oe 1 0
def Bw:FS :=
  (ay (aK 2 (bK (bP (fA cA (fV 0 (fV 1 aj)))) 1 [0] (cC 0) fH (f2 bB (ai 1) (ai 0))))
  (aQ (fA j9 (af (bK (bP (ai 2)) 1 [] (cC 0) (bj (f2 dJ (fA aM (fV 0 aj)) (fS "root"))) (fA aW (af (fA au (fV 0 (af (fS "office") aj))) (fV 0 aj)))) aj))))
def gu:=aL Bw 2 1
def qz:FS :=
  (aQ (jS (j0 zk D3 (fI 0) (ai 2) (fA df (fV 0 aj))) (f2 zk (f2 bB (f2 bB (ai 0) (ai 2)) (fI 0)) (ai 1))))
def c8:=aL qz 3 0
def By:FS :=
  (aQ (jS (f2 zl (fA aM (fV 0 aj)) (ai 1)) (jS (f2 dJ (fA au (fV 0 (af (fS "person") aj))) (ai 2)) (f2 zk (fA aS (fV 0 aj)) (ai 3)))))
def oW:=aL By 4 0
def tU:FS :=
  (aQ (bK (bP (fA cA (fV 0 (fV 1 aj)))) 1 [2,3,4,0] (cC 0) (bj (fA oW (af (f2 bB (ai 4) (ai 0)) (fV 1 (fV 2 (fV 3 aj)))))) (ai 0)))
def gV:=aL tU 5 0
def Bz:FS :=
  (aQ (f2 dJ (fA df (af (fA gV (fV 0 (fV 1 (af (fA aW (af (fS "death") aj)) (fV 2 (fV 3 aj)))))) aj)) (fI 0)))
def m7:=aL Bz 4 0
def q8:FS :=
  (ay (aK 4 (fA gV (fV 0 (fV 1 (af (fA aW (af (fS "lost") (af (fS "found") aj))) (fV 2 (fV 3 aj)))))))
  (ay (dI (bj (f2 dJ (fA df (fV 4 aj)) (fI 0))) (aQ (fC (.bl true))) bg)
  (aQ (f2 dJ (fA aM (af (f2 bB (ai 0) (tJ (ai 4) (pY [0] (fA fx (fV 1 (fV 0 aj)))))) aj)) (fS "found")))))
def lI:=aL q8 4 1
def qA:FS :=
  (ay (dI (gY (dC (bj (fA c8 (fV 0 (fV 1 (fV 2 aj)))))) (bj (f2 dA (fA aM (af (f2 bB (ai 0) (ai 2)) aj)) (fC hZ)))) (aQ (fC (.bl false))) bg)
  (ay (aK 3 (fA au (af (f2 bB (ai 0) (ai 2)) (af (fS "by") aj))))
  (ay (aK 4 (fA aS (af (f2 bB (ai 0) (ai 2)) aj)))
  (aQ (jS (fA m7 (fV 0 (fV 1 (fV 3 (fV 4 aj))))) (fA lI (fV 0 (fV 1 (fV 3 (fV 4 aj))))))))))
def fy:=aL qA 3 2
def tV:FS :=
  (aQ (jS (f2 zk (cH 1 0) (ai 0)) (Lu (f2 D4 (cH 1 1) (fC .non)) (f2 D3 (ai 0) (cH 1 1)))))
def jn:=aL tV 2 0
def qB:FS :=
  (aQ (fA jn (fV 1 (af (fA aW (af (cH 0 2) (af (cH 0 3) aj))) aj))))
def cR:=aL qB 2 0
def qC:FS :=
  (aQ (fA aW (af (cH 0 2) (af (cH 0 4) aj))))
def dn:=aL qC 1 0
def qD:FS :=
  (ay (dI (bj (f2 dJ (ai 1) (fS "last"))) (aQ (f2 bB (tJ (ai 0) (sg dn)) (fI 1))) bg)
  (aQ (f2 bB (tK (ai 0) (sg dn)) (fI 1))))
def lJ:=aL qD 2 0
def oh:FS :=
  (ay (aK 3 (bK (bP (ai 0)) 1 [2,1] (cC 0) (fG (bj (f2 dJ (cH 0 0) (fA au (fV 2 (af (fS "office") aj))))) (bj (fA cR (fV 0 (fV 1 aj))))) (ai 0)))
  (ay (aK 4 (f1 g8 (bK (bP (ai 3)) 1 [] (cC 0) fH (cH 0 1))))
  (ay (dI (bj (f2 dJ (fA df (fV 4 aj)) (fI 0))) (aQ (fA aW (af (fS "none") aj))) bg)
  (ay (dI (fG (bj (f2 AF (fA df (fV 4 aj)) (fI 1))) (bj (f2 dJ (fA au (fV 1 (af (fS "rule") aj))) (fS "open")))) (aQ (fA aW (af (fS "parted") (fV 4 aj)))) bg)
  (ay (aK 5 (fA lJ (fV 3 (af (fA au (fV 1 (af (fS "rule") aj))) aj))))
  (ay (aK 6 (tK (bK (bP (ai 3)) 1 [5] (cC 0) (bj (f2 dJ (cH 0 1) (ai 1))) (ai 0)) (sg dn)))
  (aQ (fA aW (af (fS "one") (fV 5 (af (cH 6 4) aj)))))))))))
def dS:=aL oh 3 4
def m9:FS :=
  (aQ (f2 dJ (lC (fA dS (fV 0 (fV 1 (fV 3 aj)))) cY (cM (fI 2))) (fA aW (af (fS "one") (fV 2 aj)))))
def cO:=aL m9 4 0
def jo:FS :=
  (ay (aK 3 (f2 bB (ai 0) (ai 2)))
  (ay (aK 4 (fA gV (fV 0 (fV 1 (af (fA aW (af (fS "death") aj)) (af (fA au (fV 3 (af (fS "person") aj))) (af (fA aS (fV 3 aj)) aj)))))))
  (aQ (f2 dJ (tK (ai 4) (pY [0] (fA fx (fV 1 (fV 0 aj))))) (ai 2)))))
def gf:=aL jo 3 2
def yq:FS :=
  (ay (aK 4 (f2 bB (ai 0) (ai 3)))
  (ay (dI (bj (f2 dJ (fA aM (fV 4 aj)) (fS "death"))) (aQ (fA gf (fV 0 (fV 1 (fV 3 aj))))) bg)
  (ay (dI (bj (f2 dA (fA aM (fV 4 aj)) (fA aW (af (fS "named") (af (fS "chosen") (af (fS "heir") aj)))))) (aQ (fC (.bl false))) bg)
  (ay (aK 5 (f2 EO (fA gu (fV 0 (fV 1 aj))) (fA au (fV 4 (af (fS "office") aj)))))
  (ay (dI (bj (f2 D4 (ai 5) (fC .non))) (aQ (fC (.bl false))) bg)
  (ay (dI (bj (f2 dJ (fA aM (fV 4 aj)) (fS "named"))) (aQ (fC (.bl true))) bg)
  (aQ (jS (fA fy (fV 0 (fV 1 (fV 3 aj)))) (fA cO (fV 2 (fV 5 (af (fA au (fV 4 (af (fS "by") aj))) (af (fA aS (fV 4 aj)) aj)))))))))))))
def mB:=aL yq 4 2
def oi:FS :=
  (aQ (fA aW (af (fA au (fV 0 (af (fS "office") aj))) (af (fA au (fV 0 (af (fS "person") aj))) (fV 1 (af (fC .non) (fV 2 aj)))))))
def gB:=aL oi 3 0
def qE:FS :=
  (dI (gY (bj (f2 dA (cH 5 0) (ai 1))) (gY (bj (f2 uL (cH 5 1) (ai 2))) (dC (gY (bj (fA cR (fV 5 (fV 3 aj)))) (bj (f2 AF (cH 5 2) (ai 3))))))) (i6 4 (ai 5)) (dI (bj (f2 D3 (cH 5 2) (ai 3))) (i6 4 (fA aW (af (cH 5 0) (fV 2 (af (cH 5 2) (fV 3 (af (cH 5 4) aj))))))) bg))
def B1:FS :=
  (ay (aK 4 (fA aX aj))
  (ay (jz (bP (ai 0)) (cC 5) qE)
  (je 4)))
def oZ:=aL B1 4 2
def kn:FS :=
  (ay (aK 3 (fA au (fV 1 (af (fS "since") aj))))
  (ay (aK 4 (fA oZ (fV 0 (af (fA aX (af (fA au (fV 1 (af (fS "office") aj))) aj)) (af (fA au (fV 1 (af (fS "by") aj))) (fV 3 aj))))))
  (aQ (f2 be (ai 4) (fA aX (af (fA gB (fV 1 (fV 3 (fV 2 aj)))) aj))))))
def ia:=aL kn 3 2
def gP:FS :=
  (ay (aK 9 (EX (ai 3) (fV 8 (fV 5 aj))))
  (dI (fG (bj (f2 lA (ai 9) (fC .non))) (bj (fA m7 (fV 0 (fV 1 (fV 9 (fV 6 aj))))))) (i6 7 (fA aW (fV 8 (fV 9 (fV 6 (af (fC .non) (fV 4 aj))))))) bg))
def oj:FS :=
  (ay (aK 5 (fA au (af (f2 bB (ai 0) (ai 4)) (af (fS "person") aj))))
  (ay (aK 6 (fA aS (af (f2 bB (ai 0) (ai 4)) aj)))
  (ay (aK 7 (fA aX aj))
  (ay (E1 [5,6] (jz (bP (f1 g8 (bK (bP (ai 2)) 1 [5,6] (cC 0) (fG (bj (f2 dJ (cH 0 1) (ai 1))) (bj (fA cR (fV 0 (fV 2 aj))))) (cH 0 0)))) (cC 8) gP))
  (je 7)))))
def ko:=aL oj 5 5
def ls:FS :=
  (ay (aK 5 (bK (bP (ai 2)) 1 [] (cC 0) fH (cH 0 0)))
  (ay (aK 6 (fA oZ (fV 2 (fV 5 (af (fA au (af (f2 bB (ai 0) (ai 4)) (af (fS "person") aj))) (af (fA aS (af (f2 bB (ai 0) (ai 4)) aj)) aj))))))
  (aQ (f2 be (ai 6) (fA ko (fV 0 (fV 1 (fV 2 (fV 3 (fV 4 aj))))))))))
def iS:=aL ls 5 2
def kR:FS :=
  (ay (aK 5 (f2 bB (ai 0) (ai 4)))
  (ay (dI (dC (bj (fA mB (fV 0 (fV 1 (fV 2 (fV 4 aj))))))) JR bg)
  (dI (bj (f2 dJ (fA aM (fV 5 aj)) (fS "named"))) (aK 2 (f2 be (ai 2) (fA aX (af (fA gB (fV 5 (af (fA aS (fV 5 aj)) (fV 4 aj)))) aj)))) (dI (bj (f2 dJ (fA aM (fV 5 aj)) (fS "chosen"))) (aK 2 (fA ia (fV 2 (fV 5 (fV 4 aj))))) (dI (bj (f2 dJ (fA aM (fV 5 aj)) (fS "heir"))) (tO 3 (af (fA au (fV 5 (af (fS "office") aj))) (af (fA au (fV 5 (af (fS "by") aj))) aj)) (fA au (fV 5 (af (fS "person") aj)))) (aK 2 (fA iS (fV 0 (fV 1 (fV 2 (fV 3 (fV 4 aj))))))))))))
def yr:FS :=
  (ay (aK 2 (fA aX aj))
  (ay (ER 3)
  (ay (jz (bP (fA dR (fV 0 (fV 1 aj)))) (cC 4) kR)
  (aQ (qc (ai 2) (sg gA))))))
def kq:=aL yr 2 4
def qF:FS :=
  (aQ (jS (fA c8 (fV 0 (fV 1 (fV 2 aj)))) (f2 zl (fA aM (af (f2 bB (ai 0) (ai 2)) aj)) (fC yo))))
def fz:=aL qF 3 0
def qG:FS :=
  (aQ (jS (fA c8 (fV 0 (fV 1 (fV 2 aj)))) (f2 dJ (fA aM (af (f2 bB (ai 0) (ai 2)) aj)) (fS "leave"))))
def gg:=aL qG 3 0
def qH:FS :=
  (aQ (Lu (fA gg (fV 0 (fV 1 (fV 2 aj)))) (fA fz (fV 0 (fV 1 (fV 2 aj))))))
def dU:=aL qH 3 0
def qI:FS :=
  (aQ (f2 dJ (f2 NS (ai 0) (ai 1)) (ai 1)))
def ib:=aL qI 2 0
def om:FS :=
  (ay (dI (dC (bj (fA ib (af (fA au (fV 1 (af (fS "matters") aj))) (af (fA au (fV 0 (af (fS "matters") aj))) aj))))) (aQ (fS "matters")) bg)
  (ay (dI (fG (bj (f2 dJ (fA aM (fV 0 aj)) (fS "leave"))) (bj (f2 Q5 (fA au (fV 0 (af (fS "further") aj))) (fA au (fV 1 (af (fS "further") aj)))))) (aQ (fS "further")) bg)
  (aQ (fC .non))))
def iG:=aL om 2 0
def mC:FS :=
  (ay (dI (dC (bj (fA cO (fV 0 (fV 2 (af (fA au (fV 1 (af (fS "by") aj))) (af (fA aS (fV 1 aj)) aj))))))) (aQ (fS "holder")) bg)
  (aQ (fA iG (fV 1 (fV 2 aj)))))
def gQ:=aL mC 3 0
def kx:FS :=
  (ay (aK 4 (f2 bB (ai 0) (ai 3)))
  (ay (aK 5 (bK (qp (fA gu (fV 0 (fV 1 aj)))) 1 [2,4] (cC 0) (bj (f2 D4 (fA gQ (fV 1 (fV 2 (fV 0 aj)))) (fC .non))) (ai 0)))
  (aQ (bK (bP (ai 5)) 1 [2,4] (cC 0) fH (fA aW (af (fS "office") (af (fA au (fV 0 (af (fS "office") aj))) (af (f2 bB (fA dS (fV 1 (fV 0 (af (fA aS (fV 2 aj)) aj)))) (fI 2)) aj))))))))
def ie:=aL kx 4 2
def lu:FS :=
  (ay (dI (bj (f2 D4 (ai 1) (fC .non))) (aQ (fC (.bl true))) bg)
  (aQ (jS (f2 lA (ai 0) (fC .non)) (f2 zk (ai 0) (ai 1)))))
def iT:=aL lu 2 0
def oq:FS :=
  (aQ (jS (f2 zk (cH 1 0) (cH 0 0)) (fA iT (af (cH 0 1) (af (cH 1 1) aj)))))
def iH:=aL oq 2 0
def qJ:FS :=
  (aQ (f2 K0 (fA fx (fV 0 (fV 1 aj))) (fA fx (fV 0 (fV 2 aj)))))
def gh:=aL qJ 3 0
def ot:FS :=
  (ay (aK 3 (f2 bB (ai 0) (ai 1)))
  (ay (aK 4 (fA au (af (f2 bB (ai 0) (ai 2)) (af (fS "stretch") aj))))
  (ay (dI (dC (bj (fA gh (fV 0 (fV 2 (fV 1 aj)))))) (aQ (fS "order")) bg)
  (ay (dI (gY (dC (bj (fA jn (af (fA aS (fV 3 aj)) (fV 4 aj))))) (dC (bj (fA iH (af (fA au (fV 3 (af (fS "stretch") aj))) (fV 4 aj)))))) (aQ (fS "days")) bg)
  (aQ (fA iG (fV 3 (af (f2 bB (ai 0) (ai 2)) aj))))))))
def iI:=aL ot 3 2
def ou:FS :=
  (ay (aK 3 (bK (bP (fA cA (fV 0 (fV 1 aj)))) 1 [0,1] (cC 0) (bj (fA gg (fV 1 (fV 2 (fV 0 aj))))) (ai 0)))
  (aQ (bK (bP (ai 3)) 1 [2,0] (cC 0) (bj (f2 dJ (fA au (af (f2 bB (ai 2) (ai 0)) (af (fS "person") aj))) (ai 1))) (ai 0))))
def ky:=aL ou 3 1
def lw:FS :=
  (ay (aK 3 (fA ky (fV 0 (fV 1 (af (fA au (af (f2 bB (ai 0) (ai 2)) (af (fS "by") aj))) aj)))))
  (aQ (bK (bP (ai 3)) 1 [0,2] (cC 0) (bj (f2 D4 (fA iI (fV 1 (fV 2 (fV 0 aj)))) (fC .non))) (fA aW (af (fS "leave") (fV 0 aj))))))
def iU:=aL lw 3 1
def mD:FS :=
  (ay (aK 3 (fA au (af (f2 bB (ai 0) (ai 2)) (af (fS "of") aj))))
  (ay (dI (fG (bj (fA fz (fV 0 (fV 1 (fV 3 aj))))) (bj (fA gh (fV 0 (fV 3 (fV 2 aj)))))) (aQ (fA aX (af (fA aW (af (fS "copy") (fV 3 aj))) aj))) bg)
  (aQ (fA aX aj))))
def jA:=aL mD 3 1
def qK:FS :=
  (ay (dI (dC (bj (fA dU (fV 0 (fV 1 (fV 3 aj)))))) (aQ (fA aX aj)) bg)
  (ay (dI (bj (f2 dJ (fA aM (af (f2 bB (ai 0) (ai 3)) aj)) (fS "copy"))) (aQ (fA jA (fV 0 (fV 1 (fV 3 aj))))) bg)
  (ay (aK 4 (f2 be (fA ie (fV 0 (fV 1 (fV 2 (fV 3 aj))))) (fA iU (fV 0 (fV 1 (fV 3 aj))))))
  (aQ (Ad (ai 4) (pY [] (fA aW (af (f2 bB (ai 0) (f1 vc (fI 1))) (fV 0 aj)))))))))
def dW:=aL qK 4 1
def qL:FS :=
  (ay (aK 5 (f2 bB (ai 0) (ai 4)))
  (ay (aK 6 (fA au (af (f2 bB (ai 0) (ai 3)) (af (fS "by") aj))))
  (ay (dI (bj (f2 dJ (ai 6) (fA au (fV 5 (af (fS "by") aj))))) (aQ (fC (.bl true))) bg)
  (ay (dI (bj (f2 dJ (fA aM (fV 5 aj)) (fS "copy"))) (aQ (fC (.bl false))) bg)
  (ay (aK 7 (bK (qp (fA gu (fV 0 (fV 1 aj)))) 1 [5] (cC 0) (bj (fA ib (af (fA au (fV 0 (af (fS "matters") aj))) (af (fA au (fV 1 (af (fS "matters") aj))) aj)))) (ai 0)))
  (aQ (fA Et (af (bK (bP (ai 7)) 1 [2,6,0,3] (cC 0) fH (fA cO (fV 1 (fV 0 (fV 2 (af (fA aS (af (f2 bB (ai 3) (ai 4)) aj)) aj)))))) aj))))))))
def lK:=aL qL 5 3
def qM:FS :=
  (ay (aK 6 (f2 bB (ai 0) (ai 3)))
  (ay (dI (gY (bj (f2 uL (fA aM (fV 6 aj)) (fS "call"))) (gY (bj (f2 uL (fA au (fV 6 (af (fS "of") aj))) (ai 4))) (bj (f2 AF (fA aS (fV 6 aj)) (ai 5))))) (aQ (fC (.bl false))) bg)
  (aQ (jS (fA fy (fV 0 (fV 1 (fV 3 aj)))) (fA lK (fV 0 (fV 1 (fV 2 (fV 3 (fV 4 aj))))))))))
def jB:=aL qM 6 1
def qN:FS :=
  (ay (dI (dC (bj (fA dU (fV 0 (fV 1 (fV 3 aj)))))) (aQ (fA aX aj)) bg)
  (aQ (bK (bP (fA cA (fV 0 (fV 1 aj)))) 1 [0,1,2,3,4] (cC 0) (bj (fA jB (fV 1 (fV 2 (fV 3 (fV 0 (fV 4 (fV 5 aj)))))))) (ai 0))))
def jC:=aL qN 5 0
def yt:FS :=
  (ay (dI (gY (dC (bj (fA fy (fV 0 (fV 1 (fV 3 aj)))))) (bj (f2 AF (fA aS (af (f2 bB (ai 0) (ai 3)) aj)) (ai 4)))) (aQ (fC (.bl false))) bg)
  (aQ (f2 dJ (fA df (af (fA jC (fV 0 (fV 1 (fV 2 (fV 3 (fV 4 aj)))))) aj)) (fI 0))))
def mE:=aL yt 5 0
def yu:FS :=
  (dI (fG (bj (fA dU (fV 0 (fV 1 (fV 5 aj))))) (bj (fA mE (fV 0 (fV 1 (fV 3 (fV 5 (fV 2 aj)))))))) (qr 4 (ai 5) (fA dW (fV 0 (fV 1 (fV 3 (fV 5 aj)))))) bg)
def B3:FS :=
  (ay (xh 3 (fA kq (fV 0 (fV 1 aj))))
  (ay (Bk 4)
  (ay (jz (bP (fA dR (fV 0 (fV 1 aj)))) (cC 5) yu)
  (je 4))))
def jD:=aL B3 3 3
def B4:FS :=
  (aQ (Lu (f2 dJ (cH 0 0) (fS "office")) (f2 LQ (cH 0 1) (ai 1))))
def jE:=aL B4 2 0
def yv:FS :=
  (dI (bj (fA Et (af (bK (bP (ai 3)) 1 [1] (cC 0) fH (fA jE (fV 0 (fV 1 aj)))) aj))) (yf 1 (ai 2) (fC (.bl true))) bg)
def B5:FS :=
  (ay (Bk 1)
  (ay (jz (Bo (ai 0)) (JP [2,3]) yv)
  (je 1)))
def kT:=aL B5 1 3
def qO:FS :=
  (aQ (fA jl (af (fA kT (af (fA jD (fV 0 (fV 1 (fV 2 aj)))) aj)) aj)))
def lL:=aL qO 3 0
def k6:FS :=
  (aQ (f2 bB (bK (bP (ai 0)) 1 [1] (cC 0) (bj (fA jE (fV 0 (fV 1 aj)))) (ai 0)) (fI 0)))
def da:=aL k6 2 0
def k7:FS :=
  (ay (i6 6 (cH 7 1))
  (aK 7 (fA da (af (f2 D5 (ai 4) (cH 7 1)) (fV 5 aj)))))
def B6:FS :=
  (ay (aK 4 (fA jD (fV 0 (fV 1 (fV 2 aj)))))
  (ay (aK 5 (fA kT (fV 4 aj)))
  (ay (dI (bj (f2 qh (ai 3) (ai 5))) (aQ (fC .non)) bg)
  (ay (aK 6 (fA aX (fV 3 aj)))
  (ay (aK 7 (fA da (af (f2 D5 (ai 4) (ai 3)) (fV 5 aj))))
  (ay (fY (bj (f2 uL (cH 7 0) (fS "office"))) k7 1000)
  (ay (i6 6 (cH 7 2))
  (aQ (f1 Ig (ai 6))))))))))
def pb:=aL B6 4 4
def qP:FS :=
  (aQ (f2 zl (ai 1) (bK (bP (ai 0)) 1 [] (cC 0) (bj (f2 dJ (cH 0 0) (fS "office"))) (cH 0 2))))
def jF:=aL qP 2 0
def oy:FS :=
  (aQ (f2 zl (ai 1) (bK (bP (ai 0)) 1 [] (cC 0) (bj (f2 uL (cH 0 0) (fS "office"))) (cH 0 1))))
def iJ:=aL oy 2 0
def qQ:FS :=
  (ay (aK 4 (fA jD (fV 0 (fV 1 (fV 2 aj)))))
  (ay (dI (gY (bj (f2 D3 (fA df (fV 3 aj)) (fI 2))) (dC (bj (fA Es (af (bK (bP (lC (ai 3) (cM (fI 1)) cY)) 1 [4] (cC 0) fH (f2 LQ (ai 0) (ai 1))) aj))))) (aQ (fC (.bl false))) bg)
  (ay (dI (dC (bj (fA jF (af (f2 D5 (ai 4) (cH 3 1)) (af (cH 3 0) aj))))) (aQ (fC (.bl false))) bg)
  (aQ (fA Es (af (bK (Fj (lC (ai 3) (cM (fI 1)) cY) (lC (ai 3) (cM (fI 2)) cY)) 2 [4] (JP [0,1]) fH (fA iJ (af (f2 D5 (ai 2) (ai 1)) (fV 0 aj)))) aj))))))
def lM:=aL qQ 4 1
def yw:FS :=
  (ay (aK 2 (fI 5))
  (ay (dI (bj (f2 AF (fA df (fV 0 aj)) (fI 0))) (aK 2 (f2 bB (ai 0) (f2 bC (ai 1) (fA df (fV 0 aj))))) bg)
  (ay (aK 2 (f2 bC (f2 ft (f2 be (f2 be (f2 bC (ai 2) (fI 2147483629)) (f2 ft (fI 6151) (ai 1))) (fI 1)) (fI 48271)) (fI 2147483647)))
  (aQ (f2 bC (f2 ft (ai 2) (f2 be (f2 be (f2 bC (ai 2) (fI 65519)) (ai 1)) (fI 2))) (fI 2147483629))))))
def bA:=aL yw 2 1
def lN:FS :=
  (ay (aK 6 (fA gs (fV 2 aj)))
  (ay (zM 6 (ai 3) (f2 bB (ai 1) (f2 bC (f2 be (f2 cD (ai 0) (fI 64)) (f2 ft (fI 3) (ai 5))) (fI 26))))
  (i6 4 (f2 nV (fS "") (ai 6)))))
def tW:FS :=
  (ay (aK 1 (fS "abcdefghijklmnopqrstuvwxyz"))
  (ay (aK 2 (bK (fu (f2 be (fI 1) (f2 bC (ai 0) (fI 8)))) 1 [1,0] (cC 0) fH (f2 bB (ai 1) (f2 bC (f2 cD (ai 2) (f2 be (fI 3) (f2 ft (fI 4) (ai 0)))) (fI 26)))))
  (ay (aK 3 (f2 bC (f2 cD (ai 0) (fI 8)) (fA df (fV 2 aj))))
  (ay (aK 4 (fA aX aj))
  (ay (jK (fu (fI 7)) (cC 5) lN)
  (ay (dI (bj (f2 dJ (f2 bC (f2 cD (ai 0) (fI 1000)) (fI 8)) (fI 1))) (zM 4 (fI 5) (cH 4 0)) bg)
  (je 4)))))))
def nB:=aL tW 1 6
def oz:FS :=
  (ay (aK 3 (fA aX (af (fA aW (af (fI 0) (af (fC .non) aj))) (af (fA aW (fV 1 (af (fC .non) aj))) (af (fA aW (fV 1 (af (f2 be (ai 1) (f2 ft (fI 3) (ai 2))) aj))) (af (fA aW (af (fI 0) (af (f2 be (ai 1) (f2 ft (fI 2) (ai 2))) aj))) (af (fA aW (af (fI 0) (af (f2 ft (fI 9) (ai 2)) aj))) aj)))))))
  (ay (aK 3 (f2 be (ai 3) (fA aX (af (fA aW (af (f2 be (ai 1) (ai 2)) (af (f2 be (ai 1) (f2 ft (fI 4) (ai 2))) aj))) (af (fA aW (af (f2 cD (ai 1) (fI 2)) (af (f2 be (ai 1) (f2 ft (fI 6) (ai 2))) aj))) (af (fA aW (af (fI 0) (af (fC .non) aj))) aj))))))
  (aQ (f2 bB (ai 3) (f2 bC (ai 0) (fI 8))))))
def gD:=aL oz 3 1
def yx:FS :=
  (ay (aK 7 (f2 be (f2 be (CP (fA aX (af (fS "leave") aj)) (fI 5)) (CP (fA aX (af (fS "paper") aj)) (fI 2))) (fA aX (af (fS "like") (af (fS "copy") (af (fS "copy") (af (fS "call") (af (fS "call") aj))))))))
  (ay (aK 7 (f2 be (ai 7) (fA aX (af (fS "named") (af (fS "death") (af (fS "lost") (af (fS "found") (af (fS "chosen") (af (fS "heir") aj)))))))))
  (ay (aK 8 (f2 bB (ai 7) (f2 bC (ai 1) (fI 18))))
  (ay (aK 9 (f2 bB (ai 5) (f2 l8 (f1 vc (fI 1)) (f2 bC (f2 cD (ai 1) (fI 18)) (fA Hv (af (fI 3) (af (fA df (fV 5 aj)) aj)))))))
  (ay (dI (bj (f2 dJ (f2 bC (f2 cD (ai 1) (fI 54)) (fI 6)) (fI 1))) (aK 9 (f2 bB (ai 3) (f2 bC (f2 cD (ai 1) (fI 324)) (fI 5)))) bg)
  (ay (aK 10 (f2 bB (ai 3) (f2 bC (f2 cD (ai 1) (fI 1620)) (fI 5))))
  (ay (aK 11 (fA Hu (af (fI 0) (af (f2 l8 (f2 l8 (ai 0) (fI 1)) (f2 bC (ai 2) (fI 4))) aj))))
  (ay (dI (bj (f2 dJ (f2 bC (f2 cD (ai 2) (fI 4)) (fI 8)) (fI 1))) (aK 11 (f2 bC (f2 cD (ai 2) (fI 32)) (fI 60))) bg)
  (ay (dI (bj (f2 dJ (ai 8) (fS "leave"))) (ay (aK 12 (f2 bB (fA aX (af (fI 3) (af (fI 1) (af (fI 7) (af (fI 2) (af (fI 255) (af (fI 5) (af (fI 1) (af (fI 3) aj))))))))) (f2 bC (f2 cD (ai 1) (fI 8100)) (fI 8))))
  (ay (aK 13 (f2 bC (f2 cD (ai 2) (fI 256)) (f2 bB (fA aX (af (fI 5) (af (fI 5) (af (fI 5) (af (fI 10) aj))))) (f2 bC (f2 cD (ai 2) (fI 2560)) (fI 4)))))
  (aQ (fA aW (fV 8 (fV 4 (fV 9 (fV 10 (fV 12 (af (fA gD (af (f2 cD (ai 2) (fI 32)) (fV 4 (fV 6 aj)))) (fV 13 aj))))))))))) bg)
  (ay (dI (gY (bj (f2 dJ (ai 8) (fS "paper"))) (bj (f2 dJ (ai 8) (fS "like")))) (ay (aK 12 (f2 bB (fA aX (af (fI 1) (af (fI 1) (af (fI 3) (af (fI 2) (af (fI 4) (af (fI 5) (af (fI 128) (af (fI 7) aj))))))))) (f2 bC (f2 cD (ai 1) (fI 8100)) (fI 8))))
  (ay (aK 14 (fA aW (fV 8 (fV 4 (fV 9 (fV 12 (af (fA gD (af (f2 cD (ai 2) (fI 32)) (fV 4 (fV 6 aj)))) (af (f2 bB (fA aX (af (fC .non) (fV 10 aj))) (f2 bC (f2 cD (ai 2) (fI 256)) (fI 2))) aj))))))))
  (ay (dI (bj (f2 dJ (ai 8) (fS "like"))) (aQ (f2 Bh (ai 14) (fA aW (fV 11 (af (fA aW (af (fA aW (af (fI 0) (fV 10 aj))) aj)) aj))))) bg)
  (aQ (f2 Bh (ai 14) (fA aW (af (fA aW (fV 10 aj)) aj))))))) bg)
  (ay (dI (bj (f2 zl (ai 8) (fA aW (af (fS "copy") (af (fS "call") aj))))) (aQ (fA aW (fV 8 (fV 4 (fV 9 (fV 11 aj)))))) bg)
  (ay (dI (bj (f2 dJ (ai 8) (fS "named"))) (aQ (fA aW (fV 8 (fV 4 (af (f2 bB (ai 3) (f2 be (fI 5) (f2 bC (ai 2) (fI 2)))) (fV 10 aj)))))) bg)
  (ay (dI (bj (f2 dJ (ai 8) (fS "chosen"))) (aQ (fA aW (fV 8 (fV 4 (fV 9 (af (f2 bB (ai 3) (f2 be (fI 5) (f2 bC (ai 2) (fI 2)))) (fV 10 (af (f2 be (ai 4) (f2 ft (f2 bC (f2 cD (ai 2) (fI 32)) (fI 3)) (ai 6))) aj)))))))) bg)
  (ay (dI (bj (f2 dJ (ai 8) (fS "heir"))) (aQ (fA aW (fV 8 (fV 4 (fV 9 (af (f2 bB (ai 3) (f2 be (fI 5) (f2 bC (ai 2) (fI 2)))) (fV 10 aj))))))) bg)
  (aQ (fA aW (fV 8 (fV 4 (fV 9 aj)))))))))))))))))))
def qR:=aL yx 7 8
def jp:FS :=
  (ay (aK 8 (f2 bB (fA aX (af (fS "open") (af (fS "first") (af (fS "last") aj)))) (f2 bC (f2 cD (ai 4) (f2 be (fI 64) (f2 ft (fI 9) (ai 7)))) (fI 3))))
  (ay (aK 9 (f2 bB (fA aX (af (fI 7) (af (fI 255) (af (fI 3) (af (fI 15) aj))))) (f2 bC (f2 cD (ai 4) (f2 be (fI 2) (f2 ft (fI 8) (ai 7)))) (fI 4))))
  (ay (aK 10 (f2 ft (f2 ft (fA zN (af (f2 dJ (f2 bC (f2 cD (ai 4) (f2 be (fI 512) (ai 7))) (fI 8)) (fI 1)) aj)) (fI 4)) (ai 2)))
  (ay (aK 11 (f2 bC (f2 cD (ai 4) (f2 be (fI 1024) (f2 ft (fI 5) (ai 7)))) (f2 bB (fA aX (af (fI 5) (af (fI 5) (af (fI 10) aj)))) (f2 bC (f2 cD (ai 4) (f2 be (fI 31) (ai 7))) (fI 3)))))
  (ay (i6 5 (fA aW (fV 10 (af (fA aW (af (fS "root") (af (f2 bB (ai 1) (f2 be (fI 5) (ai 7))) (fV 9 (fV 11 (fV 8 aj)))))) aj))))
  (ay (i6 5 (fA aW (af (fI 0) (af (fA aW (af (fS "named") (af (fI 0) (af (f2 bB (ai 1) (f2 be (fI 5) (ai 7))) (af (f2 bB (ai 1) (ai 7)) aj))))) aj))))
  (i6 6 (f2 bB (ai 1) (ai 7)))))))))
def jq:FS :=
  (ay (aK 12 (fA bA (fV 0 (af (f2 be (fI 5) (ai 7)) aj))))
  (ay (aK 13 (f2 ft (f2 be (f2 cD (ai 7) (fI 2)) (f2 bC (f2 cD (ai 12) (fI 7)) (fI 3))) (ai 2)))
  (ay (aK 14 (fA qR (af (fA df (fV 5 aj)) (af (fA bA (fV 0 (af (f2 be (fI 30) (ai 7)) aj))) (af (fA bA (fV 0 (af (f2 be (fI 60) (ai 7)) aj))) (fV 1 (fV 13 (fV 6 (fV 2 aj)))))))))
  (ay (dI (bj (f2 zl (cH 14 0) (fA aW (af (fS "leave") (af (fS "named") aj))))) (i6 6 (cH 14 3)) bg)
  (ay (dI (bj (f2 dJ (cH 14 0) (fS "chosen"))) (i6 6 (cH 14 4)) bg)
  (i6 5 (fA aW (af (f2 be (ai 13) (f2 ft (f2 bB (fA aX (af (fI 0) (af (fI 0) (af (fI 0) (af (fI 0) (af (fI 1) (af (fI 4) aj))))))) (f2 bC (f2 cD (ai 12) (fI 21)) (fI 6))) (ai 2))) (fV 14 aj)))))))))
def yy:FS :=
  (ay (aK 4 (fA bA (fV 0 (af (fI 1) aj))))
  (ay (aK 5 (fA aX aj))
  (ay (aK 6 (fA aX aj))
  (ay (jK (fu (f2 be (fI 1) (f2 bC (ai 4) (fI 2)))) (cC 7) jp)
  (ay (jK (fu (f2 be (fI 3) (f2 bC (fA bA (fV 0 (af (fI 2) aj))) (ai 3)))) (cC 7) jq)
  (aQ (fA g7 (fV 5 aj))))))))
def qS:=aL yy 4 11
def B7:FS :=
  (aQ (fA dW (fV 0 (fV 1 (af (fA kq (fV 0 (fV 1 aj))) (fV 2 aj))))))
def mF:=aL B7 3 0
def B8:FS :=
  (aQ (fA jC (fV 0 (fV 1 (af (fA kq (fV 0 (fV 1 aj))) (fV 2 (fV 3 aj)))))))
def wv:=aL B8 4 0
def yz:FS :=
  (ay (dI (gY (dC (bj (j0 zk D3 (fI 0) (ai 3) (fA df (fV 0 aj))))) (bj (f2 AF (f2 bB (f2 bB (ai 0) (ai 3)) (fI 0)) (ai 1)))) (aQ (fC (.bl false))) bg)
  (ay (dI (gY (bj (f2 dA (f2 bB (f2 bB (f2 bB (ai 0) (ai 3)) (fI 1)) (fI 0)) (fA aW (af (fS "leave") (af (fS "paper") (af (fS "like") (af (fS "copy") aj))))))) (bj (f2 AF (f2 bB (f2 bB (f2 bB (ai 0) (ai 3)) (fI 1)) (fI 1)) (ai 2)))) (aQ (fC (.bl false))) bg)
  (aQ (jS (fA fy (fV 0 (fV 1 (fV 3 aj)))) (f2 dJ (fA wv (fV 0 (fV 1 (fV 3 (fV 2 aj))))) (fA aX aj))))))
def mG:=aL yz 4 0
def y0:FS :=
  (dI (dC (bj (fA mG (fV 0 (fV 1 (fV 2 (fV 4 aj))))))) (aQ (fC (.bl false))) bg)
def y4:FS :=
  (dI (bj (f2 dJ (f2 dJ (cH 7 0) (fS "office")) (f2 dJ (ai 5) (fI 1)))) (i6 6 (f2 bB (ai 7) (f1 vc (fI 1)))) bg)
def qT:FS :=
  (ay (aK 6 (fA aX aj))
  (ay (E1 [5] (jz (bP (fA mF (fV 0 (fV 1 (af (f2 bB (ai 3) (ai 5)) aj))))) (cC 7) y4))
  (dI (bj (f2 dA (f2 bB (ai 3) (f2 l8 (ai 5) (fI 1))) (ai 6))) (aQ (fC (.bl false))) bg)))
def B9:FS :=
  (ay (dI (bj (f2 D3 (fA df (fV 3 aj)) (fI 2))) (aQ (fC (.bl false))) bg)
  (ay (jz (bP (lC (ai 3) (cM (fI 1)) cY)) (cC 4) y0)
  (ay (jK (wg (fI 1) (fA df (fV 3 aj))) (cC 5) qT)
  (aQ (fC (.bl true))))))
def pe:=aL B9 4 4
def y6:FS :=
  (ay (aK 3 (f2 bC (f2 cD (ai 0) (fI 8)) (fA df (fV 1 aj))))
  (ay (aK 4 (f2 l8 (f2 bC (f2 cD (ai 0) (fI 64)) (f2 be (ai 2) (fI 4))) (fI 2)))
  (ay (aK 5 (lC (ai 1) cY (cM (ai 3))))
  (ay (aK 6 (lC (ai 1) (cM (ai 3)) cY))
  (ay (aK 7 (fA aX (af (f2 be (ai 5) (lC (ai 6) (cM (fI 1)) cY)) (af (f2 be (f2 be (ai 5) (fA aX (fV 4 aj))) (ai 6)) aj))))
  (ay (aK 7 (f2 be (ai 7) (fA aX (af (f2 be (f2 be (ai 5) (lC (ai 6) cY (cM (fI 1)))) (ai 6)) (af (f2 be (f2 be (ai 5) (fA aX (fV 4 aj))) (lC (ai 6) (cM (fI 1)) cY)) aj)))))
  (ay (aK 7 (f2 be (ai 7) (fA aX (af (P4 (ai 1)) (af (f2 be (fA aX (fV 4 aj)) (lC (ai 1) (cM (fI 1)) cY)) aj)))))
  (aQ (f2 bB (f2 be (ai 7) (fA aX (af (f2 be (ai 1) (fA aX (fV 4 aj))) (af (fA gs (fV 1 aj)) aj)))) (f2 bC (ai 0) (fI 8)))))))))))
def k8:=aL y6 3 5
def Fs:FS :=
  (ay (aK 8 (bK (fu (f2 be (fI 1) (ai 7))) 1 [0,7] (cC 0) fH (fA bA (fV 1 (af (f2 be (f2 be (fI 92) (f2 ft (fI 4) (ai 2))) (ai 0)) aj)))))
  (E1 [3,8] (jm 6 (bK (bP (ai 8)) 1 [3] (cC 0) fH (f2 l8 (f2 bC (ai 0) (f2 be (fA df (fV 1 aj)) (fI 4))) (fI 2))))))
def Ft:FS :=
  (ay (aK 12 (fA pb (fV 3 (fV 4 (fV 5 (fV 11 aj))))))
  (ay (E1 [12] (jm 6 (ai 12)))
  (ay (E1 [3,11,12] (jm 6 (fA k8 (af (fA bA (fV 0 (af (f2 be (fI 110) (ai 11)) aj))) (fV 12 (af (fA df (fV 3 aj)) aj))))))
  (E1 [3,11,12] (jm 6 (fA k8 (af (fA bA (fV 0 (af (f2 be (fI 140) (ai 11)) aj))) (fV 12 (af (fA df (fV 3 aj)) aj)))))))))
def Ai:FS :=
  (ay (aK 16 (fA lM (fV 3 (fV 4 (fV 15 (fV 14 aj))))))
  (ay (aK 17 (fA pe (fV 3 (fV 4 (fV 15 (fV 13 aj))))))
  (dI (gY (dC (bj (fA jU (fV 16 (af (fC (.ty "bool")) aj))))) (gY (bj (f2 uL (ai 16) (ai 17))) (bj (f2 uL (ai 14) (ai 13))))) (aQ (fC (.bl false))) bg)))
def Fu:FS :=
  (ay (aK 14 (fA gs (fV 13 aj)))
  (E1 [2,5] (jz (bP (fA aW (fV 5 (af (f2 ft (f2 bC (fA bA (fV 0 (af (fI 170) aj))) (fI 13)) (ai 2)) aj)))) (cC 15) Ai)))
def JZ:FS :=
  (ay (aK 1 (fA nB (af (fA bA (fV 0 (af (fI 0) aj))) aj)))
  (ay (aK 2 (f2 bB (fA aX (af (fI 1) (af (fI 1) (af (fI 500) aj)))) (f2 bC (fA bA (fV 0 (af (fI 3) aj))) (fI 3))))
  (ay (aK 3 (fA qS (fV 0 (fV 1 (fV 2 (af (fI 14) aj))))))
  (ay (aK 4 (f2 bB (fA aX (af (fI 9999) (af (f2 ft (f2 bC (f2 cD (fA bA (fV 0 (af (fI 3) aj))) (fI 3)) (fI 13)) (ai 2)) aj))) (f2 cD (f2 bC (fA bA (fV 0 (af (fI 4) aj))) (fI 3)) (fI 2))))
  (ay (aK 5 (f2 bB (fA aX (af (fI 9999) (af (f2 ft (f2 bC (f2 cD (fA bA (fV 0 (af (fI 90) aj))) (fI 2)) (fI 13)) (ai 2)) aj))) (f2 bC (fA bA (fV 0 (af (fI 90) aj))) (fI 2))))
  (ay (yk 6 (af (fA aX aj) (af (fA aX (af (f2 l8 (f2 bC (fA bA (fV 0 (af (fI 91) aj))) (f2 be (fA df (fV 3 aj)) (fI 4))) (fI 2)) aj)) aj)))
  (ay (jK (fu (fI 4)) (cC 7) Fs)
  (ay (aK 9 (fA lL (fV 3 (fV 4 (fV 5 aj)))))
  (ay (aK 10 (f2 bC (fA bA (fV 0 (af (fI 171) aj))) (f2 be (fA df (fV 9 aj)) (fI 1))))
  (ay (E1 [9,10] (jz (bP (lC (f2 be (lC (ai 9) (cM (ai 10)) cY) (lC (ai 9) cY (cM (ai 10)))) cY (cM (fI 3)))) (cC 11) Ft))
  (ay (E1 [6] (jz (bP (ai 6)) (cC 13) Fu))
  (aQ (fC (.bl true))))))))))))))
def F_law:=aL JZ 1 17
end Lw
namespace DL
open PySem L2
theorem jG:∀(n m:Nat)(d:D),n<=m->aO n d=true->aO m d=true
 |n,m,.non,_,_=>by simp
 |n,m,.bl _,_,_=>by simp
 |n,m,.int _,_,_=>by simp
 |n,m,.str _,_,_=>by simp
 |n,m,.ty _,_,h=>by cases n<;>simp[aO]at h
 |n,m,.dk _ _,_,h=>by simp at h
 |n,m,.dt _ _,_,h=>by simp at h
 |0,m,.tup _,_,h=>by simp[aO]at h
 |0,m,.lst _,_,h=>by simp[aO]at h
 |n+1,0,_,h,_=>by omega
 |n+1,m+1,.tup ds,hl,h=>by
  simp only[aO,all_eq_true]at h ⊢;exact λd hd=>jG n m d (by omega) (h d hd)
 |n+1,m+1,.lst ds,hl,h=>by
  simp only[aO,all_eq_true]at h ⊢;exact λd hd=>jG n m d (by omega) (h d hd)
theorem nD:∀(ds:LD),(∀d∈ds,cU d d=true)->fU ds ds=true
 |[],_=>by simp only[fU]
 |d::ds,h=>by
  simp only[fU,h d mX,Bool.true_and];exact nD ds λe he=>h e (mZ _ he)
theorem qU:∀(n:Nat)(d:D),aO n d=true->cU d d=true
 |n,.non,_=>by simp
 |n,.bl _,_=>by simp
 |n,.int _,_=>by simp
 |n,.str _,_=>by simp
 |n,.ty _,h=>by cases n<;>simp[aO]at h
 |n,.dk _ _,h=>by simp at h
 |n,.dt _ _,h=>by simp at h
 |0,.tup _,h=>by simp[aO]at h
 |0,.lst _,h=>by simp[aO]at h
 |n+1,.tup ds,h=>by
  simp only[aO,all_eq_true]at h;simp only[cU];exact nD ds λd hd=>qU n d (h d hd)
 |n+1,.lst ds,h=>by
  simp only[aO,all_eq_true]at h;simp only[cU];exact nD ds λd hd=>qU n d (h d hd)
def y7 (I:Nat->Env->Prop)(ok:Nat->Bool)(ds:LD)(G:Env)(h0:I 0 G)
  (step:∀i x ρ,ds[i]? = some x->I i ρ->∃M,tg x ρ=some M/\((ok i=true/\∃ρ',g M=some (.nx ρ')/\I (i+1) ρ')∨(ok i=false/\g M=some (.rt d b)))):
  ((∀i,i<ds.length->ok i=true)/\∃ρ',gw tg g ds G=some (.nx ρ')/\I ds.length ρ')∨((∃i,i<ds.length/\ok i=false)/\gw tg g ds G=some (.rt d b)):=by
 have U:∀(es:LD)(i:Nat)(ρ:Env),ds.drop i=es->i+es.length=ds.length->I i ρ ->
   ((∀j,i<=j->j<ds.length->ok j=true)/\∃ρ',gw tg g es ρ=some (.nx ρ')/\I ds.length ρ')∨((∃j,j<ds.length/\ok j=false)/\gw tg g es ρ=some (.rt d b)):=by
  intro es;induction es with
  |nil=>
   intro i ρ e hl h;refine .inl ⟨λj h1 h2=>?_,ρ,by rw[xi],by rw[←hl];exact h⟩;simp at hl;omega
  |cons x es ih=>
   intro i ρ e hl h;have hd:ds[i]? = some x:=by
    have:(ds.drop i)[0]? = some x:=by rw[e];rfl
    rwa [getElem?_drop,Nat.add_zero]at this
   have he:ds.drop (i+1)=es:=by rw[←List.drop_drop,e];rfl
   have hi:i<ds.length:=(vV hd).1;obtain⟨M,h1,⟨h2,ρ',h3,h4⟩|⟨h2,h3⟩⟩:=step i x ρ hd h
   ·rcases ih (i+1) ρ' he (by simp at hl;omega) h4 with⟨O,ρ2,T,a3⟩|⟨O,T⟩
    ·refine .inl ⟨λj k1 k2=>?_,ρ2,?_,a3⟩
     ·by_cases q:j=i
      ·rw[q];exact h2
      ·exact O j (by omega) k2
     ·rw[kL,h1];simp only[vJ,h3];exact T
    ·exact .inr ⟨O,by rw[kL,h1];simp only[vJ,h3];exact T⟩
   ·exact .inr ⟨⟨i,hi,h2⟩,by rw[kL,h1];simp only[vJ,h3]⟩
 rcases U ds 0 G (by simp) (by simp) h0 with⟨O,T⟩|a
 ·exact .inl ⟨λi hi=>O i (uN _) hi,T⟩
 ·exact .inr a
end DL
namespace DL
@[simp] noncomputable abbrev sF (d:D):OB:=some (d,false)
@[simp] noncomputable abbrev lT (ds:LD):OB:=some (.lst ds,true)
@[simp] noncomputable abbrev sI (x:Int):OB:=some (.int x,false)
@[simp] noncomputable abbrev sS (x:PySem.Str):OB:=some (.str x,false)
@[simp] noncomputable abbrev sT (x:LD):OB:=some (.tup x,false)
@[simp] noncomputable abbrev sL (x:LD):OB:=some (.lst x,false)
@[simp] noncomputable abbrev sO (x:Bool):OB:=some (.bl x,false)
def dh {r:OB}{d:D}{b:Bool}(h:QL r d b=true:=by decide +kernel):r=some (d,b):=Fm h
def cS {p q:Prop}[Decidable p](h:p)(n:decide p=false:=by decide +kernel):q:=absurd h (of_decide_eq_false n)
end DL
namespace Lw
open PySem DL L2
def BA (d:D)(r:LD):nR (d::r) 0=some d:=by have:=ki (xs:=d::r) (j:=0) (by simp);simpa using this
def BB (d e:D)(r:LD):nR (d::e::r) 1=some e:=by have:=ki (xs:=d::e::r) (j:=1) (by simp);simpa using this
def SF (d e f:D)(r:LD):nR (d::e::f::r) 2=some f:=by have:=ki (xs:=d::e::f::r) (j:=2) (by simp);simpa using this
noncomputable def cW (k:Str):Bool:=decide (k = "death") || decide (k = "lost") || decide (k = "found")
noncomputable def dX (k:Str):Bool:=decide (k = "chosen") || decide (k = "heir") || decide (k = "leave") || decide (k = "paper") || decide (k = "like") || decide (k = "copy") || decide (k = "call")
structure DeedP (kind:Str)(aE:List D):Prop where
 flat:bH aE=true
 plain:aE.all (aO 5)=true
 three:cW kind=true->∃(day:Int)(p:Str),aE=[.int day,.str p]
 slg:dX kind=true->∃(day:Int)(p:Str)(r:List D),aE=.int day::.str p::r
noncomputable def row (h:Int)(kind:Str)(aE:LD):D:=.tup [.int h,.tup (.str kind::aE)]
def nF (r:D):Prop:=∃h kind aE,r=row h kind aE/\DeedP kind aE
def nF.flat (h:nF r):bx r=true:=by obtain⟨a,k,aE,rfl,dp⟩:=h;simp[row,dp.flat]
def nF.plain (h:nF r):aO 39 r=true:=by
 obtain⟨a,k,aE,rfl,dp⟩:=h;refine jG 7 39 _ (by decide) ?_;have:=dp.plain;simp only[row,aO,all_cons,all_nil,Bool.and_true,Bool.true_and];exact this
def ce (h:∀d∈ds,bx d=true):bH ds=true:=by
 induction ds with
 |nil=>rfl
 |cons d r G=>simp[h d (by simp),G λe he=>h e (by simp[he])]
def dY (zs:LS):bH (zs.map D.str)=true:=by
 induction zs with
 |nil=>rfl
 |cons a l G=>simp[G]
noncomputable def aU:D->Int
 |.tup (.int h::_)=>h
 |_=>0
noncomputable def kindOf:D->Str
 |.tup [_,.tup (.str k::_)]=>k
 |_=>("" : Str)
noncomputable def aF:D->Int
 |.tup [_,.tup (_::.int d::_)]=>d
 |_=>0
noncomputable def tX (p:Str)(day:Int):LD->Bool
 |[.int d,.str q]=>decide (q=p) && decide (d<=day)
 |_=>false
def told (G:LS)(p:Str)(day:Int):D->Bool
 |.tup [_,.tup (.str kind::aE)]=>decide (kind∈G) && tX p day aE
 |_=>false
def iK (h:Int)(kind:Str)(aE:LD):aM [row h kind aE]=sS kind:=av rfl (ax (by simp[row,BB,BA]))
def k9 (h:cW k=true):k = "death" ∨ k = "lost" ∨ k = "found":=by
 unfold cW at h;simp only[or_eq_true,decide_eq_true_eq]at h;rcases h with (h|h)|h
 ·exact .inl h
 ·exact .inr (.inl h)
 ·exact .inr (.inr h)
def lO (h:dX k=true):k = "chosen" ∨ k = "heir" ∨ k = "leave" ∨ k = "paper" ∨ k = "like" ∨ k = "copy" ∨ k = "call":=by
 unfold dX at h;simp only[or_eq_true,decide_eq_true_eq]at h;rcases h with (((((h|h)|h)|h)|h)|h)|h
 ·exact .inl h
 ·exact .inr (.inl h)
 ·exact .inr (.inr (.inl h))
 ·exact .inr (.inr (.inr (.inl h)))
 ·exact .inr (.inr (.inr (.inr (.inl h))))
 ·exact .inr (.inr (.inr (.inr (.inr (.inl h)))))
 ·exact .inr (.inr (.inr (.inr (.inr (.inr h)))))
def Io (h:cW k=true∨dX k=true):oG gO (.str k) (.str "day")=sI 0:=by
 rcases h with h|h
 ·rcases k9 h with rfl|rfl|rfl<;>exact dh
 ·rcases lO h with rfl|rfl|rfl|rfl|rfl|rfl|rfl<;>exact dh
def Aj (h:cW k=true):oG gO (.str k) (.str "person")=sI 1:=by
 rcases k9 h with rfl|rfl|rfl<;>exact dh
def Fv (h:cW k=true∨dX k=true):dJ (.str k) (.str "root")=sO false:=by
 rcases h with h|h
 ·rcases k9 h with rfl|rfl|rfl<;>exact dh
 ·rcases lO h with rfl|rfl|rfl|rfl|rfl|rfl|rfl<;>exact dh
def b9 {h:Int}{k:Str}{aE:LD}{part:Str}{i:Nat}{d:D}(hi:oG gO (.str k) (.str part)=sI i)(hd:aE[i]? = some d):au [row h k aE,.str part]=some (d,false):=by
 refine av rfl (ax ?_);refine bo (.tup (.str k::aE)) (.int (1+i)) (by simp[row,BB]) (bo (.int 1) (.int i) rfl (bo (.str k) (.str part) (aG [row h k aE] rfl (iK _ _ _)) rfl hi) (by simp)) ?_;have G:i<aE.length:=(vV hd).1;have:nR (.str k::aE) (1+(i:Int))=some d:=by
  have:=ki (xs:=(.str k:D)::aE) (j:=i+1) (by simp;omega);rw[show(1+(i:Int))=((i+1:Nat):Int) by omega,this];simp only[List.getElem_cons_succ];rw[vU G]at hd;exact hd
 simp[this]
def jr {h:Int}{k:Str}{aE:LD}{d:Int}{r:LD}(hk:cW k=true∨dX k=true)(hr:aE=.int d::r):aS [row h k aE]=sI d:=by
 subst hr;refine av rfl (a9 (cI (bo (.str k) (.str "root") (aG [row h k (.int d::r)] rfl (iK _ _ _)) rfl (Fv hk))) (ax (aG [row h k (.int d::r),.str "day"] rfl (b9 (i:=0) (Io hk) rfl))))
def qV (k:Str)(G:LS):Gz (.str k) (G.map .str)=decide (k∈G):=by
 induction G with
 |nil=>simp[Gz]
 |cons w G M=>
  have:Gz (.str k) ((w::G).map .str)=(cU (.str w) (.str k) || Gz (.str k) (G.map .str)):=rfl;rw[this,M,xo];by_cases e:w=k
  ·simp[e]
  ·have O:¬k=w:=λz=>e z.symm;simp[e,O]
def nG (G:LS):(G.map D.str).all gy=true:=by
 induction G with
 |nil=>rfl
 |cons w G M=>simp[gy]
def js (k:Str)(G:LS):zl (.str k) (.tup (G.map .str))=sO (decide (k∈G)):=by
 simp only[zl,jf,vJ,qV];rw[if_pos ⟨rfl,nG G⟩]
def Fw (hr:nF r)(G:LS)(hw:∀w∈G,cW w=true)(p:Str)(day:Int):oW [r,.tup (G.map .str),.str p,.int day]=sO (told G p day r):=by
 obtain⟨h,kind,aE,rfl,dp⟩:=hr;have M:f2 zl (fA aM (fV 0 aj)) (ai 1) [some (row h kind aE,false),sT (G.map .str),sS p,sI day]=sO (decide (kind∈G)) :=
  bo (.str kind) (.tup (G.map .str)) (aG [row h kind aE] rfl (iK _ _ _)) rfl (js kind G)
 have O:told G p day (row h kind aE)=(decide (kind∈G) && tX p day aE):=rfl;rw[O];refine av rfl (ax (dB (b1:=false) M λhk=>?_));have h3:=hw kind (OH hk);obtain⟨d,q,rfl⟩:=dp.three h3;show jS _ _ _=sO (decide (q=p) && decide (d<=day));refine dB (b1:=false) ?_ λ_=>?_
 ·exact bo (.str q) (.str p) (aG [row h kind [.int d,.str q],.str "person"] rfl (b9 (i:=1) (Aj h3) rfl)) rfl (by simp)
 ·exact bo (.int d) (.int day) (aG [row h kind [.int d,.str q]] rfl (jr (.inl h3) rfl)) rfl (by simp)
def Fx (ds:LD):tp ds=ds.zipIdx.map λx=>.tup [.int x.2,x.1]:=by
 unfold tp;apply ext_getElem?;intro i;simp[List.getElem?_mapIdx,List.getElem?_zipIdx];cases ds[i]?<;>simp
noncomputable def ao (ab:LD)(aa:Int):List (D×Nat):=ab.zipIdx.filter λx=>decide (aU x.1<=aa)
def kB (ab:LD)(hr:∀r∈ab,nF r)(hl:ab.length<=1000)(aa:Int):cA [.tup ab,.int aa]=lT ((ao ab aa).map λx=>.int x.2):=by
 have hc:=g9 (fi:=E4 (ai 0)) (nT:=2) (cap:=[1]) (tg:=JP [0,1]) (c:=bj (f2 zk (cH 1 0) (ai 2))) (fe:=ai 0) (ρ:=[sT ab,sI aa]) ab.zipIdx (λx=>.tup [.int x.2,x.1]) (λx=>decide (aU x.1<=aa)) (λx=>.int x.2)
  (by simp[Fx]) (by simp;omega) λx hx=>by
   obtain⟨h,kind,aE,e,_⟩:=hr x.1 (List.fst_mem_of_mem_zipIdx hx);refine⟨_,rfl,cI ?_,λ_=>⟨false,by simp[dN]⟩⟩;simp[dN,e,row,BA,aU]
 exact av rfl (ax hc)
def oH (ab:LD)(aa:Int)(G:LS)(p:Str)(day:Int):List (D×Nat):=(ao ab aa).filter λx=>told G p day x.1
def BC (h:x∈oH ab aa ws p day):ab[x.2]? = some x.1/\told ws p day x.1=true:=by
 obtain⟨h1,h2⟩:=vN h;exact⟨(List.mk_mem_zipIdx_iff_getElem? (x:=x.1) (i:=x.2)).mp (vN h1).1,h2⟩
def c9 {ab:LD}{i:Nat}{r:D}(h:ab[i]? = some r):nR ab (i:Int)=some r:=by
 obtain⟨G,e⟩:=vV h;rw[ki G,e]
def Ip (ab:LD)(aa:Int)(G:LS)(p:Str)(day:Int):(oH ab aa G p day).length<=ab.length:=by
 have h1:=vM (λx:D×Nat=>told G p day x.1) (ao ab aa);have h2:=vM (λx:D×Nat=>decide (aU x.1<=aa)) ab.zipIdx;rw[length_zipIdx]at h2;exact vR h1 h2
def ww (ab:LD)(hr:∀r∈ab,nF r)(hl:ab.length<=1000)(aa:Int)(G:LS)(hw:∀w∈G,cW w=true)(p:Str)(day:Int):
  gV [.tup ab,.int aa,.tup (G.map .str),.str p,.int day]=lT ((oH ab aa G p day).map λx=>.int x.2):=by
 have hc:=g9 (fi:=bP (fA cA (fV 0 (fV 1 aj)))) (nT:=1) (cap:=[2,3,4,0]) (tg:=cC 0) (c:=bj (fA oW (af (f2 bB (ai 4) (ai 0)) (fV 1 (fV 2 (fV 3 aj)))))) (fe:=ai 0)
  (ρ:=[sT ab,sI aa,sT (G.map .str),sS p,sI day]) (ao ab aa) (λx=>.int x.2) (λx=>told G p day x.1) (λx=>.int x.2)
  (by
   show(fA cA (fV 0 (fV 1 aj)) _).bind _=_;rw[aG [.tup ab,.int aa] rfl (kB ab hr hl aa)];rfl) (by have:=vM (λx:D×Nat=>decide (aU x.1<=aa)) ab.zipIdx;rw[length_zipIdx]at this;exact vR this (by omega)) λx hx=>by
   have M:ab[x.2]? = some x.1:=(List.mk_mem_zipIdx_iff_getElem? (x:=x.1) (i:=x.2)).mp (vN hx).1;refine⟨_,rfl,cI (aG [x.1,.tup (G.map .str),.str p,.int day] ?_ (Fw (hr _ (vL M)) G hw p day)),λ_=>⟨false,by simp[dN]⟩⟩;have ha:=c9 M;simp[dN,ha]
 exact av rfl (ax hc)
def kA (x:D×Nat):List At:=[.i (aF x.1),.i x.2]
def c6 (a b:D×Nat):Bool:=decide (aF a.1<aF b.1∨(aF a.1=aF b.1/\(a.2:Int)<b.2))
def gH:D×Nat->List (D×Nat)->D×Nat
 |b,[]=>b
 |b,x::r=>if c6 b x=true then gH x r else gH b r
def Ka:List (D×Nat)->Option (D×Nat)
 |[]=>none
 |x::r=>some (gH x r)
def Me (a b c d:Int):br [.i a,.i b] [.i c,.i d]=some (decide (a<c∨(a=c/\b<d))):=by
 rw[br];by_cases h:a=c
 ·rw[if_pos h,br];by_cases h2:b=d
  ·rw[if_pos h2,br];simp[h,h2]
  ·rw[if_neg h2];simp[h]
 ·rw[if_neg h];simp[h]
def Ak (a b:D×Nat):br (kA a) (kA b)=some (c6 a b):=Me _ _ _ _
def wx (l:List (D×Nat)):eJ (l.map kA)=true:=by
 unfold eJ;simp[all_eq_true,Ak]
theorem nH:∀(r:List (D×Nat))(b:D×Nat),mr (kA b,.int b.2) (r.map λx=>(kA x,D.int x.2))=.int (gH b r).2
 |[],b=>rfl
 |x::r,b=>by
  rw[uY,mr,gH];show(if br (kA b) (kA x)=some true then _ else _)=_;rw[Ak];by_cases h:c6 b x=true
  ·rw[if_pos h,if_pos (by rw[h])];exact nH r x
  ·rw[if_neg h,if_neg (by simpa using h)];exact nH r b
theorem qW:∀(r:List (D×Nat))(b:D×Nat),gH b r∈b::r
 |[],b=>by simp[gH]
 |x::r,b=>by
  rw[gH];split
  ·exact mZ _ (qW r x)
  ·rcases vP (qW r b)with h|h
   ·rw[h];exact mX
   ·exact mZ _ (mZ _ h)
theorem ig {α:Type}{f:D->Option D}{g h:α->D}:∀(l:List α),(∀x∈l,f (g x)=some (h x))->ji f (l.map g)=some (l.map h)
 |[],_=>rfl
 |x::l,hx=>by
  rw[uY,ji,hx x mX,vJ,ig l λy hy=>hx y (mZ _ hy)];rfl
theorem gW {α:Type}{g:α->D}{h:α->List At}:∀(l:List α),(∀x∈l,xV (g x)=some (h x))->dF (l.map g)=some (l.map h)
 |[],_=>rfl
 |x::l,hx=>by
  rw[uY,dF,hx x mX,vJ,gW l λy hy=>hx y (mZ _ hy)];rfl
noncomputable def mH:LS:=[("lost" : Str),"found"]
def o0:∀w∈mH,cW w=true:=by
 intro w hw;rcases vP hw with rfl|hw
 ·decide +kernel
 ·rcases vP hw with rfl|hw
  ·decide +kernel
  ·cases hw
def y8 (ab:LD)(aa:Int)(p:Str)(day:Int):Bool:=match Ka (oH ab aa mH p day) with
 |none=>true
 |some b=>decide (kindOf b.1 = "found")
def qX (hw:∀w∈ws,cW w=true)(hr:nF r)(M:told ws p day r=true):∃h k d,r=row h k [.int d,.str p]/\cW k=true/\k∈ws/\d<=day:=by
 obtain⟨h,kind,aE,rfl,dp⟩:=hr;have G:(decide (kind∈ws) && tX p day aE)=true:=M;rw[vC]at G;have hm:=OH G.1;obtain⟨d,q,rfl⟩:=dp.three (hw _ hm);have hq:(decide (q=p) && decide (d<=day))=true:=G.2;rw[vC]at hq;have:=OH hq.1;subst this;exact⟨h,kind,d,rfl,hw _ hm,hm,OH hq.2⟩
def BD {ab:LD}{i:Nat}{h d:Int}{k p:Str}(G:ab[i]? = some (row h k [.int d,.str p]))(h3:cW k=true):fx [.tup ab,.int i]=sT [.int d,.int i]:=by
 have ha:=c9 G;refine av rfl (ax (aG [.int d,.int i] (aD (d:=.int d) (b:=false) (aG [row h k [.int d,.str p]] (by simp[ha]) (jr (.inl h3) rfl)) rfl) (by simp[sizeLine])))
def Iq (ab:LD)(hr:∀r∈ab,nF r)(hl:ab.length<=1000)(aa:Int)(p:Str)(day:Int):lI [.tup ab,.int aa,.str p,.int day]=sO (y8 ab aa p day):=by
 have ht:=ww ab hr hl aa mH o0 p day;have U:=Ip ab aa mH p day;have M:∀x∈oH ab aa mH p day,∃h k d,ab[x.2]? = some (row h k [.int d,.str p])/\x.1=row h k [.int d,.str p]/\cW k=true:=λx hx=>by
  obtain⟨O,RW⟩:=BC hx;obtain⟨h,k,d,e,h3,_⟩:=qX o0 (hr _ (vL O)) RW;exact⟨h,k,d,by rw[O,e],e,h3⟩
 unfold y8;generalize hsel:oH ab aa mH p day=sel at ht M U ⊢;have G:fA gV (fV 0 (fV 1 (af (fA aW (af (fS "lost") (af (fS "found") aj))) (fV 2 (fV 3 aj))))) [sT ab,sI aa,sS p,sI day,none]=lT (sel.map λx=>.int x.2) :=
  aG [.tup ab,.int aa,.tup (mH.map .str),.str p,.int day] (by simp[mH,sizeLine]) ht
 have T:bH (sel.map λx=>D.int x.2)=true:=ce λd hd=>by obtain⟨x,_,rfl⟩:=vO hd;rfl
 cases sel with
 |nil=>exact av rfl (cj G T (bq (cI (by simp)) (ax rfl)))
 |cons x r=>
  refine av rfl (cj G T (a9 (cI (by simp;omega)) (ax ?_)));obtain⟨h,k,d,O,e,h3⟩:=M (gH x r) (qW r x);have hb:kindOf (gH x r).1=k:=by rw[e];rfl
  show _=some (D.bl (decide (kindOf (gH x r).1 = "found")),false);rw[hb];refine bo (.str k) (.str "found") (aG [row h k [.int d,.str p]] (aD (d:=row h k [.int d,.str p]) (b:=false) (bo (.tup ab) (.int (gH x r).2) rfl ?_ (by simp[c9 O])) rfl) (iK _ _ _)) rfl (by simp);have hm:∀ρ:DL.Env,ρ[0]? = some (sT ab)->ji (pY [0] (fA fx (fV 1 (fV 0 aj))) ρ) ((x::r).map λx=>D.int x.2)=some ((x::r).map λx=>.tup [.int (aF x.1),.int x.2]):=λρ h0=>
   ig (x::r) λy hy=>by
    obtain⟨h,k,d,O,e,h3⟩:=M y hy;have hd:aF y.1=d:=by rw[e];rfl
    rw[hd];show(fA fx _ _).map _=_;rw[aG [.tup ab,.int y.2] (by simp[dN,h0]) (BD O h3)];rfl
  have hk:dF ((x::r).map λx=>D.tup [.int (aF x.1),.int x.2])=some ((x::r).map kA):=gW (x::r) λy _=>rfl;have hz:((x::r).map kA).zip ((x::r).map λx=>D.int x.2)=(kA x,.int x.2)::r.map λx=>(kA x,D.int x.2):=by
   rw[zip_map'];rfl
  show(tJ (ai 4) _ _)=_;unfold tJ LP;show((some (D.lst ((x::r).map λx=>D.int x.2),false)).bind _)=_;simp only[vJ];rw[hm _ rfl];simp only[vJ];rw[hk];simp only[vJ];rw[if_pos (wx _),hz];simp only[nH]
noncomputable def dZ:LS:=[("death" : Str)]
def jH:∀w∈dZ,cW w=true:=by
 intro w hw;rcases vP hw with rfl|hw
 ·decide +kernel
 ·cases hw
def nI (ab:LD)(aa:Int)(p:Str)(day:Int):Bool:=(oH ab aa dZ p day).isEmpty
def y9 (ab:LD)(hr:∀r∈ab,nF r)(hl:ab.length<=1000)(aa:Int)(p:Str)(day:Int):m7 [.tup ab,.int aa,.str p,.int day]=sO (nI ab aa p day):=by
 have G:=ww ab hr hl aa dZ jH p day;unfold nI;generalize oH ab aa dZ p day=sel at G ⊢;refine av rfl (ax (bo (.int ((sel.map λx=>D.int x.2).length:Nat)) (.int 0) ?_ rfl ?_))
 ·exact aG [.lst (sel.map λx=>.int x.2)] (aD (d:=.lst (sel.map λx=>.int x.2)) (b:=true) (aG [.tup ab,.int aa,.tup (dZ.map .str),.str p,.int day] (by simp[sizeLine,dZ]) G) rfl) Im
 ·rw[Bu];cases sel<;>simp
  omega
noncomputable def cV:D->Str
 |.tup [_,.tup (_::_::.str p::_)]=>p
 |_=>("" : Str)
noncomputable def yA:LS:=[("chosen" : Str),"heir","leave","paper","like","copy","call"]
def qY (k:Str):dX k=decide (k∈yA):=by
 unfold dX yA;simp[mem_cons,Bool.or_assoc]
def Al:hZ=.tup (yA.map .str):=rfl
def kE (k:Str)(G:LS):dA (.str k) (.tup (G.map .str))=sO (!decide (k∈G)):=by
 simp only[dA,jf,vJ,qV];rw[if_pos ⟨rfl,nG G⟩]
def Fy (h:dX k=true):oG gO (.str k) (.str "by")=sI 1:=by
 rcases lO h with rfl|rfl|rfl|rfl|rfl|rfl|rfl<;>exact dh
def iV (ab:LD)(aa:Int)(r:D):Bool:=(decide (aU r<=aa) && dX (kindOf r)) && (nI ab aa (cV r) (aF r) && y8 ab aa (cV r) (aF r))
def kF {ab:LD}{i:Nat}{h:Int}{kind:Str}{aE:LD}(G:ab[i]? = some (row h kind aE))(aa:Int):c8 [.tup ab,.int aa,.int i]=sO (decide (h<=aa)):=by
 have M:i<ab.length:=(vV G).1;have ha:=c9 G;refine av rfl (ax ?_);have:=dB (f1:=j0 zk D3 (fI 0) (ai 2) (fA df (fV 0 aj))) (f2:=f2 zk (f2 bB (f2 bB (ai 0) (ai 2)) (fI 0)) (ai 1)) (ρ:=[sT ab,sI aa,sI i]) (p:=true) (q:=decide (h<=aa)) (b1:=false)
  (by
   refine(yn (x:=.int 0) (y:=.int i) (z:=.int ab.length) (b1:=false) (b2:=false) (b3:=false) (b4:=false) (p:=true) (q:=true) rfl rfl (by simp) (by simp) λ_=>?_).trans rfl;simp;omega) λ_=>by simp[ha,row,BA]
 exact this
def mI (ab:LD)(hr:∀r∈ab,nF r)(hl:ab.length<=1000)(aa:Int){i:Nat}{r:D}(O:ab[i]? = some r):fy [.tup ab,.int aa,.int i]=sO (iV ab aa r):=by
 obtain⟨h,kind,aE,rfl,dp⟩:=hr r (vL O);have hk:=kF O aa;have ha:=c9 O;have M:∀(ρ:DL.Env),f2 bB (ai 0) (ai 2) ρ=some (row h kind aE,false)->fA aM (af (f2 bB (ai 0) (ai 2)) aj) ρ=sS kind:=λρ e=>aG [row h kind aE] (aD e rfl) (iK _ _ _);have G:f2 bB (ai 0) (ai 2) [sT ab,sI aa,sI i,none,none]=some (row h kind aE,false):=by simp[ha]
 have hc:(gY (dC (bj (fA c8 (fV 0 (fV 1 (fV 2 aj)))))) (bj (f2 dA (fA aM (af (f2 bB (ai 0) (ai 2)) aj)) (fC hZ)))) [sT ab,sI aa,sI i,none,none]=some (!decide (h<=aa) || !dX kind):=by
  refine bV (bI (cI (aG [.tup ab,.int aa,.int i] rfl hk))) λ_=>cI (bo (.str kind) hZ (M _ G) rfl ?_);rw[Al,qY];exact kE kind yA
 have hs:iV ab aa (row h kind aE)=((decide (h<=aa) && dX kind) && (nI ab aa (cV (row h kind aE)) (aF (row h kind aE)) && y8 ab aa (cV (row h kind aE)) (aF (row h kind aE)))):=rfl;cases hb:(decide (h<=aa) && dX kind) with
 |false=>
  rw[hs,hb];refine av rfl (bq (hc.trans ?_) (ax rfl));rw[←Bool.not_and,hb];rfl
 |true=>
  rw[hs,hb];rw[vC]at hb;obtain⟨day,p,T,rfl⟩:=dp.slg hb.2;show _=some (D.bl (true && (nI ab aa p day && y8 ab aa p day)),false);rw[Bool.true_and];refine av rfl (a9 (hc.trans (by rw[hb.1,hb.2];rfl)) (fF (.str p) (aG [row h kind (.int day::.str p::T),.str "by"] (aD G rfl) (b9 (i:=1) (Fy hb.2) rfl)) rfl (fF (.int day) (aG [row h kind (.int day::.str p::T)] (aD (d:=row h kind (.int day::.str p::T)) (b:=false) (by simp[ha]) rfl) (jr (.inr hb.2) rfl)) rfl (ax ?_))));exact dB (b1:=false) (aG [.tup ab,.int aa,.str p,.int day] (by simp) (y9 ab hr hl aa p day)) λ_=>aG [.tup ab,.int aa,.str p,.int day] (by simp) (Iq ab hr hl aa p day)
inductive Cd:Str->List D->Prop
 |root (o r:Str) (m f:Int):Cd ("root" : Str) [.str o,.int m,.int f,.str r]
 |named (d:Int) (o p:Str):Cd ("named" : Str) [.int d,.str o,.str p]
 |chosen (d:Int) (b o p:Str) (s:Int):Cd ("chosen" : Str) [.int d,.str b,.str o,.str p,.int s]
 |heir (d:Int) (b o p:Str):Cd ("heir" : Str) [.int d,.str b,.str o,.str p]
 |three (k:Str) (hk:k = "death" ∨ k = "lost" ∨ k = "found") (d:Int) (p:Str):Cd k [.int d,.str p]
 |other (k:Str) (hk:k = "leave" ∨ k = "paper" ∨ k = "like" ∨ k = "copy" ∨ k = "call") (d:Int) (b:Str) (r:List D) (hf:bH r=true) (hp:r.all (aO 5)=true):Cd k (.int d::.str b::r)
def Cd.deed (h:Cd k r):DeedP k r:=by
 cases h with
 |root o rl m f=>exact⟨rfl,by simp,λh=>cS h,λh=>cS h⟩
 |named d o p=>exact⟨rfl,by simp,λh=>cS h,λh=>cS h⟩
 |chosen d b o p s=>exact⟨rfl,by simp,λh=>cS h,λ_=>⟨d,b,_,rfl⟩⟩
 |heir d b o p=>exact⟨rfl,by simp,λh=>cS h,λ_=>⟨d,b,_,rfl⟩⟩
 |three k hk d p=>exact⟨rfl,by simp,λ_=>⟨d,p,rfl⟩,λh=>by rcases hk with rfl|rfl|rfl<;>exact cS h⟩
 |other k hk d b r hf hp=>exact⟨by simp[hf],by simp only[all_cons,hp,aO,Bool.and_true],λh=>by rcases hk with rfl|rfl|rfl|rfl|rfl<;>exact cS h,λ_=>⟨d,b,r,rfl⟩⟩
def wy (r:D):Prop:=∃h k aE,r=row h k aE/\Cd k aE
def wy.rp (h:wy r):nF r:=by obtain⟨a,k,aE,rfl,d⟩:=h;exact⟨a,k,aE,rfl,d.deed⟩
def bi (r:D):Bool:=decide (kindOf r = "root")
def Cd.day (h:Cd k r)(hk:k ≠ "root"):∃d q,r=.int d::q:=by
 cases h with
 |root=>exact absurd rfl hk
 |named d=>exact⟨d,_,rfl⟩
 |chosen d=>exact⟨d,_,rfl⟩
 |heir d=>exact⟨d,_,rfl⟩
 |three _ _ d=>exact⟨d,_,rfl⟩
 |other _ _ d=>exact⟨d,_,rfl⟩
def Cd.day_idx (h:Cd k r)(hk:k ≠ "root"):oG gO (.str k) (.str "day")=sI 0:=by
 cases h with
 |root=>exact absurd rfl hk
 |named=>exact dh
 |chosen=>exact dh
 |heir=>exact dh
 |three _ hh=>rcases hh with rfl|rfl|rfl<;>exact dh
 |other _ hh=>rcases hh with rfl|rfl|rfl|rfl|rfl<;>exact dh
def bS (e:f ρ=some (.str a,bb))(h:decide (a=b)=x):bj (f2 dJ f (fS b)) ρ=some x:=cI (fW (x:=.str a) (y:=.str b) (b1:=bb) (b2:=false) e rfl (by rw[←h];simp))
def sk (r:D):D:=if bi r=true then .non else .int (aF r)
def iW (g:wy r):aM [r]=sS (kindOf r):=by
 obtain⟨h,k,aE,rfl,_⟩:=g;exact iK h k aE
def qZ (g:wy r):aS [r]=some (sk r,false):=by
 obtain⟨h,k,aE,rfl,d⟩:=g;unfold sk;by_cases hk:k = "root"
 ·have:bi (row h k aE)=true:=sv hk;rw[if_pos this];exact av rfl (bq (bS (a:=k) (bb:=false) (aG [row h k aE] rfl (iK _ _ _)) (sv hk)) (ax rfl))
 ·have:bi (row h k aE)=false:=MO hk;rw[if_neg (by rw[this];decide)];obtain⟨dd,q,rfl⟩:=d.day hk;exact av rfl (a9 (bS (a:=k) (bb:=false) (aG [row h k (.int dd::q)] rfl (iK _ _ _)) (MO hk)) (ax (aG [row h k (.int dd::q),.str "day"] rfl (b9 (i:=0) (d.day_idx hk) rfl))))
def gE (ab:LD):Prop:=ab.length<=60/\∀r∈ab,wy r
def gE.rp (g:gE ab):∀r∈ab,nF r:=λr hr=>(g.2 r hr).rp
def gE.le (g:gE ab):ab.length<=1000:=vR g.1 (by decide)
def b8 (h:x∈ao ab aa):ab[x.2]? = some x.1:=by
 obtain⟨h1,_⟩:=vN h;exact List.mem_zipIdx_iff_getElem?.mp h1
def cw (ab:LD)(aa:Int):(ao ab aa).length<=ab.length:=by
 have:=vM (λx:D×Nat=>decide (aU x.1<=aa)) ab.zipIdx;rw[length_zipIdx]at this;exact this
def eF (ab:LD)(aa:Int):((ao ab aa).map (·.2)).Nodup:=by
 have h1:(ab.zipIdx.map (·.2)).Nodup:=by rw[List.zipIdx_map_snd];exact List.nodup_range'
 exact List.Nodup.sublist (List.Sublist.map _ (filter_sublist)) h1
def dc (ab:LD)(aa:Int):List (D×Nat):=(ao ab aa).filter λx=>!bi x.1
def O4 (ab:LD)(aa:Int):List (D×Nat):=eI (λx=>cQ (kA x)) (dc ab aa)
def Fz (h:cQ (kA a)=cQ (kA b)):a.2=b.2:=by
 have h:[aF a.1,(a.2:Int)]=[aF b.1,(b.2:Int)]:=h;injection h with _ h;injection h with h;omega
def Ir (ha:a∈ao ab aa)(hb:b∈ao ab aa)(h:a.2=b.2):a=b:=by
 have h1:=b8 ha;have h2:=b8 hb;rw[h,h2]at h1;exact Prod.ext (vK h1).symm h
def o3 (g:gE ab)(aa:Int):dR [.tup ab,.int aa]=lT ((O4 ab aa).map λx=>.int x.2):=by
 have hl:=g.1;have RT:=cw ab aa;have M:∀x∈ao ab aa,nR ab (x.2:Int)=some x.1/\wy x.1:=λx hx=>⟨c9 (b8 hx),g.2 _ (vL (b8 hx))⟩;have hc:=g9 (fi:=bP (fA cA (fV 0 (fV 1 aj)))) (nT:=1) (cap:=[0]) (tg:=cC 0) (c:=bj (f2 lA (fA aS (af (f2 bB (ai 1) (ai 0)) aj)) (fC .non))) (fe:=ai 0) (ρ:=[sT ab,sI aa,none]) (ao ab aa) (λx=>.int x.2) (λx=>!bi x.1) (λx=>.int x.2)
  (by
   show(fA cA (fV 0 (fV 1 aj)) _).bind _=_;rw[aG [.tup ab,.int aa] rfl (kB ab g.rp g.le aa)];rfl) (by omega) λx hx=>by
   obtain⟨ha,T⟩:=M x hx;refine⟨_,rfl,cI (bo (sk x.1) .non (aG [x.1] (by simp[dN,ha]) (qZ T)) rfl ?_),λ_=>⟨false,by simp[dN]⟩⟩;unfold sk;cases bi x.1<;>simp[C4]
 have U:bK (bP (fA cA (fV 0 (fV 1 aj)))) 1 [0] (cC 0) (bj (f2 lA (fA aS (af (f2 bB (ai 1) (ai 0)) aj)) (fC .non))) (ai 0) [sT ab,sI aa,none]=lT ((dc ab aa).map λx=>.int x.2):=hc;have M5:bH ((dc ab aa).map λx=>D.int x.2)=true:=ce λd hd=>by obtain⟨x,_,rfl⟩:=vO hd;rfl
 have MV:(dc ab aa).length<=60:=vR (vM _ _) (by omega);have G:∀x∈dc ab aa,x∈ao ab aa/\bi x.1=false:=λx hx=>by
  obtain⟨h1,h2⟩:=vN hx;exact⟨h1,by simpa using h2⟩
 have hm:∀ρ:DL.Env,ρ[0]? = some (sT ab)->ji (pY [0] (fA fx (fV 1 (fV 0 aj))) ρ) ((dc ab aa).map λx=>.int x.2)=some ((dc ab aa).map λx=>.tup [.int (aF x.1),.int x.2]):=λρ h0=>
  ig (dc ab aa) λx hx=>by
   obtain⟨h1,h2⟩:=G x hx;obtain⟨ha,T⟩:=M x h1;have hd:=qZ T;unfold sk at hd;rw[h2,if_neg (by decide)]at hd;have hr:fx [.tup ab,.int x.2]=sT [.int (aF x.1),.int x.2]:=av rfl (ax (aG [.int (aF x.1),.int x.2] (aD (d:=.int (aF x.1)) (b:=false) (aG [x.1] (by simp[ha]) hd) rfl) (by simp[sizeLine])));show(fA fx _ _).map _=_;rw[aG [.tup ab,.int x.2] (by simp[dN,h0]) hr];rfl
 have hk:dF ((dc ab aa).map λx=>D.tup [.int (aF x.1),.int x.2])=some ((dc ab aa).map kA):=gW _ λx _=>rfl;have hz:((dc ab aa).map kA).zip ((dc ab aa).map λx=>D.int x.2)=(dc ab aa).map λx=>(kA x,D.int x.2):=by rw[zip_map']
 have Qa:((dc ab aa).map (·.2)).Nodup:=List.Nodup.sublist (List.Sublist.map _ (filter_sublist)) (eF ab aa);have O:((dc ab aa).map kA).length<64/\eJ ((dc ab aa).map kA)=true/\fM ((dc ab aa).map kA)=true/\(((dc ab aa).map kA).map cQ).Nodup:=by
  refine⟨by rw[vI];omega,wx _,?_,?_⟩
  ·unfold fM;rw[or_eq_true];left;simp[all_eq_true,kA]
  ·rw[uP];exact List.Pairwise.map _ (λa b h e=>h (Fz e)) (pairwise_map.mp Qa)
 refine av rfl (cj U M5 (ax ?_));show(qc (ai 2) _ _)=_;unfold qc;show((some (D.lst ((dc ab aa).map λx=>D.int x.2),false)).bind _)=_;simp only[vJ];rw[hm _ rfl];simp only[vJ];rw[hk];simp only[vJ];rw[if_pos O];unfold jj;rw[hz];have key:((O4 ab aa).map λx=>(kA x,D.int x.2))=eI (λp:List At×D=>cQ p.1) ((dc ab aa).map λx=>(kA x,D.int x.2)):=by
  refine jY _ (λx hx y hy e=>?_) ((b7 _ _).map _) ?_
  ·obtain⟨a,ha,rfl⟩:=vO hx;obtain⟨b,hb,rfl⟩:=vO hy;rw[Ir (G a ha).1 (G b hb).1 (Fz e)]
  ·exact pairwise_map.mpr (hU _ _)
 rw[←key,uP];rfl
structure Cl where
 o:Str
 p:Str
 s:Int
 u:Option Int
 n:Nat
noncomputable def uD:OI->D
 |none=>.non
 |some x=>.int x
def aV (c:Cl):D:=.tup [.str c.o,.str c.p,.int c.s,uD c.u,.int c.n]
def BE (u:OI):bx (uD u)=true:=by cases u<;>rfl
def mJ (c:Cl):bx (aV c)=true:=by simp[aV,BE]
def jt (cs:List Cl):bH (cs.map aV)=true:=ce λd hd=>by obtain⟨c,_,rfl⟩:=vO hd;exact mJ c
noncomputable def ii (c:Cl)(day:Int):Bool:=decide (c.s<=day) && (match c.u with|none=>true|some x=>decide (day<x))
def UE (d e f g:D)(r:LD):nR (d::e::f::g::r) 3=some g:=by have:=ki (xs:=d::e::f::g::r) (j:=3) (by simp);simpa using this
def UF (d e f g h:D)(r:LD):nR (d::e::f::g::h::r) 4=some h:=by have:=ki (xs:=d::e::f::g::h::r) (j:=4) (by simp);simpa using this
def O5 (c:Cl):bB (aV c) (.int 0)=sS c.o:=by simp[aV,BA]
def MJ (c:Cl):bB (aV c) (.int 1)=sS c.p:=by simp[aV,BB]
def P7 (c:Cl):bB (aV c) (.int 2)=sI c.s:=by simp[aV,SF]
def UG (c:Cl):bB (aV c) (.int 3)=some (uD c.u,false):=by simp[aV,UE]
def P8 (c:Cl):bB (aV c) (.int 4)=sI c.n:=by simp[aV,UF]
def c7 (ds:LD)(h:ds.length<=100):aW ds=sT ds:=if_pos (cZ (by omega))
def gk (ds:LD)(h:ds.length<=100):aX ds=lT ds:=if_pos (cZ (by omega))
def BF (s day:Int)(u:OI):jn [.int day,.tup [.int s,uD u]]=sO (decide (s<=day) && (match u with|none=>true|some x=>decide (day<x))):=by
 refine av rfl (ax (dB (b1:=false) (by simp[BA]) λ_=>?_));cases u with
 |none=>exact qw (p:=true) (q:=true) (b1:=false) (by simp[BB,uD]) (by simp)
 |some x=>exact qw (p:=false) (q:=decide (day<x)) (b1:=false) (by simp[BB,uD]) λ_=>by simp[BB,uD]
def ra (c:Cl)(day:Int):cR [aV c,.int day]=sO (ii c day) :=
 av rfl (ax (aG [.int day,.tup [.int c.s,uD c.u]] (bR rfl (bR (aG [.int c.s,uD c.u] (aD (bo (aV c) (.int 2) rfl rfl (P7 c)) (aD (bo (aV c) (.int 3) rfl rfl (UG c)) rfl)) (c7 _ (by simp))) rfl)) (BF c.s day c.u)))
def yB (c:Cl):dn [aV c]=sT [.int c.s,.int c.n] :=
 av rfl (ax (aG [.int c.s,.int c.n] (aD (bo (aV c) (.int 2) rfl rfl (P7 c)) (aD (bo (aV c) (.int 4) rfl rfl (P8 c)) rfl)) (c7 _ (by simp))))
def wz (c:Cl):gA [aV c]=sT [.str c.o,.int c.s,.int c.n] :=
 av rfl (ax (aG [.str c.o,.int c.s,.int c.n] (aD (bo (aV c) (.int 0) rfl rfl (O5 c)) (aD (bo (aV c) (.int 2) rfl rfl (P7 c)) (aD (bo (aV c) (.int 4) rfl rfl (P8 c)) rfl))) (c7 _ (by simp))))
noncomputable def kS (c:Cl):List At:=[.i c.s,.i c.n]
def mK:Cl->List Cl->Cl
 |b,[]=>b
 |b,x::r=>if br (kS x) (kS b)=some true then mK x r else mK b r
def sn:Cl->List Cl->Cl
 |b,[]=>b
 |b,x::r=>if br (kS b) (kS x)=some true then sn x r else sn b r
theorem rb:∀(r:List Cl)(b:Cl),lq (kS b,aV b) (r.map λx=>(kS x,aV x))=aV (mK b r)
 |[],b=>rfl
 |x::r,b=>by
  rw[uY,lq,mK];split
  ·exact rb r x
  ·exact rb r b
theorem rd:∀(r:List Cl)(b:Cl),mr (kS b,aV b) (r.map λx=>(kS x,aV x))=aV (sn b r)
 |[],b=>rfl
 |x::r,b=>by
  rw[uY,mr,sn];split
  ·exact rd r x
  ·exact rd r b
def BG (cs:List Cl):eJ (cs.map kS)=true:=by
 unfold eJ;simp[all_eq_true,kS,Me]
def re (ρ:DL.Env)(cs:List Cl):ji (sg dn ρ) (cs.map aV)=some (cs.map λc=>.tup [.int c.s,.int c.n]):=ig cs λc _=>by
 show(dn [aV c]).map _=_;rw[yB];rfl
def o4 (cs:List Cl):dF (cs.map λc=>D.tup [.int c.s,.int c.n])=some (cs.map kS):=gW cs λc _=>rfl
def F0 (e:f ρ=some (.lst ((b::r).map aV),bb)):tK f (sg dn) ρ=some (aV (mK b r),false):=by
 unfold tK LP;rw[e,vJ];dsimp only;rw[re,vJ,o4,vJ,if_pos (BG _)];have:((b::r).map kS).zip ((b::r).map aV)=(kS b,aV b)::r.map λx=>(kS x,aV x):=by rw[zip_map'];rfl
 rw[this];show some (lq _ _,false)=_;rw[rb]
def Mf (e:f ρ=some (.lst ((b::r).map aV),bb)):tJ f (sg dn) ρ=some (aV (sn b r),false):=by
 unfold tJ LP;rw[e,vJ];dsimp only;rw[re,vJ,o4,vJ,if_pos (BG _)];have:((b::r).map kS).zip ((b::r).map aV)=(kS b,aV b)::r.map λx=>(kS x,aV x):=by rw[zip_map'];rfl
 rw[this];show some (mr _ _,false)=_;rw[rd]
def ij (rl:Str)(b:Cl)(r:List Cl):Cl:=if rl = "last" then sn b r else mK b r
def F1 (rl:Str)(b:Cl)(r:List Cl):lJ [.lst ((b::r).map aV),.str rl]=sS (ij rl b r).p:=by
 unfold ij;by_cases h:rl = "last"
 ·rw[if_pos h];exact av rfl (bq (bS (a:=rl) (bb:=false) rfl (sv h)) (ax (bo (aV (sn b r)) (.int 1) (Mf (bb:=false) rfl) rfl (MJ _))))
 ·rw[if_neg h];exact av rfl (a9 (bS (a:=rl) (bb:=false) rfl (MO h)) (ax (bo (aV (mK b r)) (.int 1) (F0 (bb:=false) rfl) rfl (MJ _))))
theorem rf:∀(r:List Cl)(b:Cl),mK b r∈b::r
 |[],b=>by simp[mK]
 |x::r,b=>by
  rw[mK];split
  ·exact mZ _ (rf r x)
  ·rcases vP (rf r b)with h|h
   ·rw[h];exact mX
   ·exact mZ _ (mZ _ h)
theorem rg:∀(r:List Cl)(b:Cl),sn b r∈b::r
 |[],b=>by simp[sn]
 |x::r,b=>by
  rw[sn];split
  ·exact mZ _ (rg r x)
  ·rcases vP (rg r b)with h|h
   ·rw[h];exact mX
   ·exact mZ _ (mZ _ h)
def Dc (rl:Str)(b:Cl)(r:List Cl):ij rl b r∈b::r:=by
 unfold ij;split
 ·exact rg r b
 ·exact rf r b
noncomputable def ML (cs:List Cl)(o:Str)(day:Int):List Cl:=cs.filter λc=>decide (c.o=o) && ii c day
def lP (cs:List Cl):LS:=ln (iP (cs.map (·.p)))
def O6:List Cl->Nat
 |[]=>0
 |b::r=>(mK b r).n
def o5 (rl:Str):List Cl->D
 |[]=>.tup [.str "none"]
 |b::r=>if 1<(lP (b::r)).length/\rl = "open" then .tup [.str "parted",.lst ((lP (b::r)).map .str)]
  else .tup [.str "one",.str (ij rl b r).p,.int (O6 ((b::r).filter λc=>decide (c.p=(ij rl b r).p)))]
def jL (cs:List Cl)(o rl:Str)(day:Int):D:=o5 rl (ML cs o day)
def Iu {z:Str}:iP (z::zs)≠[]:=by
 have:∀(M:LS)(G:LS),z∈G->z∈M.foldl jO G:=λM=>by
  induction M with
  |nil=>intro G h;exact h
  |cons a l O=>intro G h;exact O _ (xJ.mpr (.inl h))
 have h:=this zs (jO [] z) (xJ.mpr (.inr rfl));intro e;unfold iP at e;rw[foldl_cons]at e;rw[e]at h;cases h
def kG:au [row h ("root" : Str) [.str o,.int m,.int f,.str rl],.str "office"]=sS o:=b9 (i:=0) dh rfl
def De:au [row h ("root" : Str) [.str o,.int m,.int f,.str rl],.str "rule"]=sS rl:=b9 (i:=3) dh rfl
def rh (zs:LS):iD (zs.map .str)=some zs:=by
 induction zs with
 |nil=>rfl
 |cons z zs G=>simp[G]
def mL (cs:List Cl)(hl:cs.length<=60)(day:Int):dS [.lst (cs.map aV),row h ("root" : Str) [.str o,.int m,.int f,.str rl],.int day]=some (jL cs o rl day,false):=by
 let rt:D:=row h ("root" : Str) [.str o,.int m,.int f,.str rl];have h1:=g9 (fi:=bP (ai 0)) (nT:=1) (cap:=[2,1]) (tg:=cC 0) (c:=fG (bj (f2 dJ (cH 0 0) (fA au (fV 2 (af (fS "office") aj))))) (bj (fA cR (fV 0 (fV 1 aj))))) (fe:=ai 0)
  (ρ:=[sL (cs.map aV),some (rt,false),sI day,none,none,none,none]) cs aV (λc=>decide (c.o=o) && ii c day) aV (by simp) (by omega) λc hc=>by
   refine⟨_,rfl,fN (cI (bo (.str c.o) (.str o) (bo (aV c) (.int 0) (by simp[dN]) rfl (O5 c)) (aG [rt,.str "office"] (by simp[dN]) kG) (by simp))) λ_=>cI (aG [aV c,.int day] (by simp[dN]) (ra c day)),λ_=>⟨false,by simp[dN]⟩⟩
 have T:bK (bP (ai 0)) 1 [2,1] (cC 0) (fG (bj (f2 dJ (cH 0 0) (fA au (fV 2 (af (fS "office") aj))))) (bj (fA cR (fV 0 (fV 1 aj))))) (ai 0) [sL (cs.map aV),some (rt,false),sI day,none,none,none,none]=lT ((ML cs o day).map aV):=h1;have MY:(ML cs o day).length<=60:=vR (vM _ _) hl;unfold jL;generalize ML cs o day=al at T MY;have h2:∀ρ:DL.Env,ρ[3]? = some (lT (al.map aV))->f1 g8 (bK (bP (ai 3)) 1 [] (cC 0) fH (cH 0 1)) ρ=lT ((lP al).map .str):=λρ h3=>by
  have hc:=km (fi:=bP (ai 3)) (nT:=1) (cap:=[]) (tg:=cC 0) (fe:=cH 0 1) (ρ:=ρ) al aV (λc=>.str c.p) (by simp[h3]) (by omega) λc hc=>⟨_,rfl,false,bo (aV c) (.int 1) (by simp[dN]) rfl (MJ c)⟩;have e2:al.map (λc=>D.str c.p)=(al.map (·.p)).map .str:=by rw[uP];rfl
  rw[e2]at hc;unfold f1;rw[hc,vJ];show(iD ((al.map (·.p)).map .str)).bind _=_;rw[rh,vJ,if_pos (by rw[vI];omega)];rfl
 have Jr:bH ((lP al).map D.str)=true:=dY _;refine av rfl (cj (ds:=al.map aV) T (jt al) (cj (ds:=(lP al).map .str) (h2 _ rfl) Jr ?_));cases al with
 |nil=>exact bq (cI (by simp[lP,iP,ln])) (ax (aG [.str "none"] rfl (c7 _ (by simp))))
 |cons b r=>
  have D8:(lP (b::r)).length≠0:=by
   unfold lP;rw[(gb _).length_eq];intro e;exact Iu (List.length_eq_zero_iff.mp e)
  refine a9 (cI (by simp[D8])) ?_;have G:∀ρ:DL.Env,ρ[1]? = some (some (rt,false))->fA au (fV 1 (af (fS "rule") aj)) ρ=sS rl:=λρ q1=>aG [rt,.str "rule"] (by simp[q1]) De;by_cases hp:1<(lP (b::r)).length/\rl = "open"
  ·have:o5 rl (b::r)=.tup [.str "parted",.lst ((lP (b::r)).map .str)]:=by rw[o5,if_pos hp]
   rw[this];exact bq (fN (p:=true) (q:=true) (cI (by simp;omega)) λ_=>bS (bb:=false) (G _ rfl) (sv hp.2)) (ax (aG [.str "parted",.lst ((lP (b::r)).map .str)] (by simp) (c7 _ (by simp))))
  ·have:o5 rl (b::r)=.tup [.str "one",.str (ij rl b r).p,.int (O6 ((b::r).filter λc=>decide (c.p=(ij rl b r).p)))]:=by rw[o5,if_neg hp]
   rw[this];have M:fG (bj (f2 AF (fA df (fV 4 aj)) (fI 1))) (bj (f2 dJ (fA au (fV 1 (af (fS "rule") aj))) (fS "open"))) [sL (cs.map aV),some (rt,false),sI day,lT ((b::r).map aV),lT ((lP (b::r)).map .str),none,none]=some false:=by
    by_cases h5:1<(lP (b::r)).length
    ·exact fN (p:=true) (q:=false) (cI (by simp;omega)) λ_=>bS (bb:=false) (G _ rfl) (MO λe=>hp ⟨h5,e⟩)
    ·exact fN (p:=false) (q:=false) (cI (by simp;omega)) (by simp)
   have U:=Dc rl b r;let ch:=ij rl b r;have h6:=g9 (fi:=bP (ai 3)) (nT:=1) (cap:=[5]) (tg:=cC 0) (c:=bj (f2 dJ (cH 0 1) (ai 1))) (fe:=ai 0) (ρ:=[sL (cs.map aV),some (rt,false),sI day,lT ((b::r).map aV),lT ((lP (b::r)).map .str),sS ch.p,none]) (b::r) aV (λc=>decide (c.p=ch.p)) aV (by simp) (by omega) λc hc=>⟨_,rfl,cI (bo (.str c.p) (.str ch.p) (bo (aV c) (.int 1) (by simp[dN]) rfl (MJ c)) (by simp[dN]) (by simp)),λ_=>⟨false,by simp[dN]⟩⟩;obtain⟨b2,O,hf⟩:∃b2 O,(b::r).filter (λc=>decide (c.p=ch.p))=b2::O:=by
    cases hq:(b::r).filter (λc=>decide (c.p=ch.p)) with
    |nil=>
     have:=List.filter_eq_nil_iff.mp hq _ U;simp[ch]at this
    |cons b2 O=>exact⟨b2,O,rfl⟩
   rw[hf]at h6 ⊢;refine a9 M (fF (.str ch.p) (aG [.lst ((b::r).map aV),.str rl] (bR (by simp) (aD (G _ rfl) rfl)) (F1 rl b r)) rfl (fF (aV (mK b2 O)) (F0 (bb:=true) h6) (mJ _) (ax (aG [.str "one",.str ch.p,.int (mK b2 O).n] (bR rfl (bR rfl (aD (bo (aV (mK b2 O)) (.int 4) rfl rfl (P8 _)) rfl))) (c7 _ (by simp))))))
def Kb:D->D
 |.tup ds=>.tup (i7 ds none (some 2))
 |d=>d
def im (cs:List Cl)(o rl p:Str)(day:Int):Bool:=cU (Kb (jL cs o rl day)) (.tup [.str "one",.str p])
def Am (n:Nat)(zs:LS):(zs.map D.str).all (aO n)=true:=by
 induction zs with
 |nil=>rfl
 |cons a l G=>simp
def Df (rl:Str)(G:List Cl):∃ds,o5 rl G=.tup ds/\ds.all (aO 5)=true:=by
 cases G with
 |nil=>exact⟨_,rfl,by simp⟩
 |cons b r=>
  rw[o5];split
  ·exact⟨_,rfl,by simp only[all_cons,all_nil,aO,Bool.and_true,Bool.true_and];exact Am _ _⟩
  ·exact⟨_,rfl,by simp⟩
def F3 (h:ds.all (aO 5)=true):(i7 ds lo hi).all (aO 5)=true:=by
 rw[all_eq_true]at h ⊢;exact λd hd=>h d (List.mem_of_mem_drop (List.mem_of_mem_take hd))
def tY (h:ds.all (aO 5)=true):aO 40 (.tup ds)=true:=jG 6 40 _ (by decide) (by simpa only[aO]using h)
def w4 (cs:List Cl)(hl:cs.length<=60)(p:Str)(day:Int):cO [.lst (cs.map aV),row h ("root" : Str) [.str o,.int m,.int f,.str rl],.str p,.int day]=sO (im cs o rl p day):=by
 have hb:=mL cs hl (h:=h) (o:=o) (rl:=rl) (m:=m) (f:=f) day;obtain⟨ds,e,hd⟩:=Df rl (ML cs o day);have G:jL cs o rl day=.tup ds:=e;refine av rfl (ax (bo (Kb (jL cs o rl day)) (.tup [.str "one",.str p]) ?_ (by simp[sizeLine]) ?_))
 ·have hc:=Bt (F:=dS) (fa:=fV 0 (fV 1 (fV 3 aj))) (ρ:=[sL (cs.map aV),some (row h ("root" : Str) [.str o,.int m,.int f,.str rl],false),sS p,sI day]) (ds:=[.lst (cs.map aV),row h ("root" : Str) [.str o,.int m,.int f,.str rl],.int day]) rfl hb;rw[G]at hc ⊢;show lC (fA dS (fV 0 (fV 1 (fV 3 aj)))) cY (cM (fI 2)) _=_;unfold lC;rw[show(List.map (λd=>some (d,false)) [D.lst (cs.map aV),row h ("root" : Str) [.str o,.int m,.int f,.str rl],.str p,.int day]++List.replicate 0 none:DL.Env)=[sL (cs.map aV),some (row h ("root" : Str) [.str o,.int m,.int f,.str rl],false),sS p,sI day]from rfl,hc];rfl
 ·unfold im dJ;rw[if_pos];rw[G];exact⟨tY (F3 hd),tY (by simp)⟩
noncomputable def az (j:Nat):D->Str
 |.tup [_,.tup (_::aE)]=>match aE[j]? with
  |some (.str s)=>s
  |_=>("" : Str)
 |_=>("" : Str)
noncomputable def gL (j:Nat):D->Int
 |.tup [_,.tup (_::aE)]=>match aE[j]? with
  |some (.int s)=>s
  |_=>0
 |_=>0
def Cd.root_of (h:Cd ("root" : Str) r):∃o rl,∃m f:Int,r=[.str o,.int m,.int f,.str rl]:=by
 generalize hk:("root" : Str)=k at h;cases h with
 |root o rl m f=>exact⟨o,rl,m,f,rfl⟩
 |named=>exact cS hk
 |chosen=>exact cS hk
 |heir=>exact cS hk
 |three _ hh=>rcases hh with rfl|rfl|rfl<;>exact cS hk
 |other _ hh=>rcases hh with rfl|rfl|rfl|rfl|rfl<;>exact cS hk
def tZ {κ α:Type}[DecidableEq κ]{ks:List κ}{k:κ}{x y:α}:∀ {xs:List α},y∈dH ks xs k x->y=x∨y∈xs:=by
 intro xs h;unfold dH at h;split at h
 ·rename_i G;clear G;induction ks generalizing xs with
  |nil=>simp at h
  |cons a ks M=>
   cases xs with
   |nil=>simp at h
   |cons b xs=>
    rw[zipWith_cons_cons,mem_cons]at h;rcases h with h|h
    ·split at h
     ·exact .inl h
     ·exact .inr (by rw[h];exact mX)
    ·rcases M h with h|h
     ·exact .inl h
     ·exact .inr (mZ _ h)
 ·rcases mem_append.mp h with h|h
  ·exact .inr h
  ·exact .inl (uT h)
theorem ua:∀(l:List (eC×D))(a:LK×LD)(y:D),y∈(l.foldl qj a).2->y∈a.2∨∃p∈l,p.2=y
 |[],a,y,h=>.inl h
 |p::l,a,y,h=>by
  rw[foldl_cons]at h;rcases ua l _ y h with h|⟨q,hq,e⟩
  ·rcases tZ (show y∈dH a.1 a.2 p.1 p.2 from h)with h|h
   ·exact .inr ⟨p,mX,h.symm⟩
   ·exact .inl h
  ·exact .inr ⟨q,mZ _ hq,e⟩
theorem ub {α:Type}(f:α->Str)(g:α->D):∀(l:List α),iQ (l.map λx=>D.tup [.str (f x),g x])=some (l.map λx=>(.inr (f x),g x))
 |[]=>rfl
 |x::l=>by
  rw[uY,iQ,ub f g l];rfl
theorem ri {κ:Type}[DecidableEq κ]:∀ {ks:List κ}{vs:LD}{k:κ}{v:D},bO ks vs k=some v->v∈vs
 |k'::ks,d::ds,k,v,h=>by
  unfold bO at h;split at h
  ·cases h;exact mX
  ·exact mZ _ (ri h)
 |[],_,_,_,h=>by simp[bO]at h
 |_::_,[],_,_,h=>by simp[bO]at h
noncomputable def mM (KL:List (D×Nat)):List (eC×D):=(KL.filter λx=>bi x.1).map λx=>(.inr (az 0 x.1),x.1)
def BH (KL:List (D×Nat))(o:Str):Option D:=bO (ca (mM KL)).1 (ca (mM KL)).2 (.inr o)
def rj (g:wy r)(h:bi r=true):∃a o rl,∃m f:Int,r=row a ("root" : Str) [.str o,.int m,.int f,.str rl]:=by
 obtain⟨a,k,aE,rfl,d⟩:=g;have hk:k = "root":=OH h;subst hk;obtain⟨o,rl,m,f,rfl⟩:=d.root_of;exact⟨a,o,rl,m,f,rfl⟩
def du (g:gE ab)(hx:x∈ao ab aa):nR ab (x.2:Int)=some x.1/\wy x.1:=⟨c9 (b8 hx),g.2 _ (vL (b8 hx))⟩
def yC (g:gE ab)(h:BH (ao ab aa) o=some v):∃a G rl,∃m f:Int,v=row a ("root" : Str) [.str G,.int m,.int f,.str rl]:=by
 have hv:=ri h;rcases ua _ ([],[]) v hv with h|⟨p,hp,e⟩
 ·cases h
 ·obtain⟨x,hx,rfl⟩:=vO hp;obtain⟨h1,h2⟩:=vN hx;rw[←e];exact rj (du g h1).2 h2
def rm (g:gE ab)(aa:Int):gu [.tup ab,.int aa]=sF (.dk (ca (mM (ao ab aa))).1 (ca (mM (ao ab aa))).2):=by
 have hl:=cw ab aa;have M:=g.1;have h1:=km (fi:=bP (fA cA (fV 0 (fV 1 aj)))) (nT:=1) (cap:=[0]) (tg:=cC 0) (fe:=f2 bB (ai 1) (ai 0)) (ρ:=[sT ab,sI aa,none]) (ao ab aa) (λx=>.int x.2) Prod.fst
  (by
   show(fA cA (fV 0 (fV 1 aj)) _).bind _=_;rw[aG [.tup ab,.int aa] rfl (kB ab g.rp g.le aa)];rfl) (by omega) λx hx=>by
   have ha:=(du g hx).1;exact⟨_,rfl,false,by simp[dN,ha]⟩
 have hn:bH ((ao ab aa).map Prod.fst)=true:=ce λd hd=>by
  obtain⟨x,hx,rfl⟩:=vO hd;exact(du g hx).2.rp.flat
 have h2:=g9 (fi:=bP (ai 2)) (nT:=1) (cap:=[]) (tg:=cC 0) (c:=bj (f2 dJ (fA aM (fV 0 aj)) (fS "root"))) (fe:=fA aW (af (fA au (fV 0 (af (fS "office") aj))) (fV 0 aj)))
  (ρ:=[sT ab,sI aa,lT ((ao ab aa).map Prod.fst)]) (ao ab aa) Prod.fst (λx=>bi x.1) (λx=>.tup [.str (az 0 x.1),x.1]) (by simp) (by omega) λx hx=>by
   have G:=(du g hx).2;refine⟨_,rfl,bS (a:=kindOf x.1) (bb:=false) (aG [x.1] rfl (iW G)) rfl,λhp=>⟨false,?_⟩⟩;obtain⟨a,o,rl,m,f,e⟩:=rj G hp;refine aG [.str (az 0 x.1),x.1] (bR (aG [x.1,.str "office"] rfl ?_) rfl) (c7 _ (by simp));rw[e];exact kG
 refine av rfl (cj (ds:=(ao ab aa).map Prod.fst) h1 hn (ax (aG [.lst (((ao ab aa).filter λx:D×Nat=>bi x.1).map λx:D×Nat=>D.tup [.str (az 0 x.1),x.1])] (aD h2 rfl) ?_)));rw[j9,ub (λx:D×Nat=>az 0 x.1) Prod.fst];rfl
def oJ:D×Nat->List (D×Nat)->D×Nat
 |b,[]=>b
 |b,x::r=>if br (kA x) (kA b)=some true then oJ x r else oJ b r
theorem w6:∀(r:List (D×Nat))(b:D×Nat),lq (kA b,.int b.2) (r.map λx=>(kA x,D.int x.2))=.int (oJ b r).2
 |[],b=>rfl
 |x::r,b=>by
  rw[uY,lq,oJ];split
  ·exact w6 r x
  ·exact w6 r b
def io (KL:List (D×Nat))(p:Str)(day:Int)(i:Nat):Bool:=match KL.filter (λx=>told dZ p day x.1) with
 |[]=>false
 |b::r=>decide ((oJ b r).2=i)
def F4 (g:gE ab)(aa:Int)(hx:x∈ao ab aa)(e:x.1=row a ("death" : Str) [.int d,.str p]):gf [.tup ab,.int aa,.int x.2]=sO (io (ao ab aa) p d x.2):=by
 have ha:=(du g hx).1;have gx:=(du g hx).2;have ht:=ww ab g.rp g.le aa dZ jH p d;have M:au [x.1,.str "person"]=sS p:=by rw[e];exact b9 (i:=1) dh rfl
 have O:aS [x.1]=sI d:=by rw[e];exact jr (.inl (by decide +kernel)) rfl
 have G:x∈oH ab aa dZ p d:=mem_filter.mpr ⟨hx,by rw[e];simp[told,row,dZ,tX]⟩;have W8:io (ao ab aa) p d x.2=match oH ab aa dZ p d with|[]=>false|b::r=>decide ((oJ b r).2=x.2):=rfl
 have T:∀y∈oH ab aa dZ p d,∃h k dd,ab[y.2]? = some (row h k [.int dd,.str p])/\y.1=row h k [.int dd,.str p]/\cW k=true:=λy hy=>by
  obtain⟨U,RW⟩:=BC hy;obtain⟨h,k,dd,e2,h3,_⟩:=qX jH (g.rp _ (vL U)) RW;exact⟨h,k,dd,by rw[U,e2],e2,h3⟩
 rw[W8];cases hs:oH ab aa dZ p d with
 |nil=>rw[hs]at G;cases G
 |cons b r=>
  rw[hs]at ht T;have hm:∀ρ:DL.Env,ρ[0]? = some (sT ab)->ji (pY [0] (fA fx (fV 1 (fV 0 aj))) ρ) ((b::r).map λy=>.int y.2)=some ((b::r).map λy=>.tup [.int (aF y.1),.int y.2]):=λρ h0=>
   ig (b::r) λy hy=>by
    obtain⟨h,k,dd,U,e2,h3⟩:=T y hy;show(fA fx _ _).map _=_;rw[aG [.tup ab,.int y.2] (by simp[dN,h0]) (BD U h3),e2];rfl
  have hk:dF ((b::r).map λy=>D.tup [.int (aF y.1),.int y.2])=some ((b::r).map kA):=gW _ λy _=>rfl;have hz:((b::r).map kA).zip ((b::r).map λy=>D.int y.2)=(kA b,D.int b.2)::r.map λy=>(kA y,D.int y.2):=by rw[zip_map'];rfl
  have M5:bH ((b::r).map λy=>D.int y.2)=true:=ce λd hd=>by obtain⟨y,_,rfl⟩:=vO hd;rfl
  refine av rfl (fF x.1 (by simp[ha]) gx.rp.flat (cj (ds:=(b::r).map λy=>.int y.2) (aG [.tup ab,.int aa,.tup (dZ.map .str),.str p,.int d] (bR rfl (bR rfl (bR (aG [.str "death"] rfl (c7 _ (by simp))) (aD (aG [x.1,.str "person"] rfl M) (aD (aG [x.1] rfl O) rfl))))) ht) M5 (ax (bo (.int (oJ b r).2) (.int x.2) ?_ rfl ?_))))
  ·unfold tK LP;show((some (D.lst ((b::r).map λy=>D.int y.2),false)).bind _)=_;rw[vJ];dsimp only;rw[hm _ rfl,vJ,hk,vJ,if_pos (wx _),hz];show some (lq _ _,false)=_;rw[w6]
  ·rw[Bu];congr 3;apply decide_eq_decide.mpr;omega
abbrev KL:=List (D×Nat)
noncomputable def ro (K:KL)(p:Str)(day:Int):Bool:=(K.filter λx=>told dZ p day x.1).isEmpty
def O7 (K:KL)(p:Str)(day:Int):Bool:=match Ka (K.filter λx=>told mH p day x.1) with
 |none=>true
 |some x=>decide (kindOf x.1 = "found")
def wA (K:KL)(r:D):Bool:=dX (kindOf r) && (ro K (cV r) (aF r) && O7 K (cV r) (aF r))
def F5 (r:D):Str:=if kindOf r = "named" then az 1 r else az 2 r
noncomputable def wB:LS:=[("named" : Str),"chosen","heir"]
def cP (K:KL)(G:List Cl)(x:D×Nat):Bool :=
 if kindOf x.1 = "death" then io K (az 1 x.1) (aF x.1) x.2
 else if kindOf x.1∈wB then match BH K (F5 x.1) with
  |none=>false
  |some v=>if kindOf x.1 = "named" then true else wA K x.1 && im G (az 0 v) (az 3 v) (az 1 x.1) (aF x.1)
 else false
def Iv (ab:LD)(aa:Int)(p:Str)(day:Int):nI ab aa p day=ro (ao ab aa) p day:=rfl
def Iw (h:aU r<=aa):iV ab aa r=wA (ao ab aa) r:=by
 unfold iV wA;rw[sv h,Bool.true_and];rfl
def Dg (g:gE ab)(aa:Int)(G:List Cl)(Po:G.length<=60)(hx:x∈ao ab aa)(O:bi x.1=false):mB [.tup ab,.int aa,.lst (G.map aV),.int x.2]=sO (cP (ao ab aa) G x):=by
 obtain⟨ha,U⟩:=du g hx;have hh:aU x.1<=aa:=OH (vN hx).2;have hf:bx x.1=true:=U.rp.flat;have hw:∀ρ:DL.Env,ρ[4]? = some (some (x.1,false))->fA aM (fV 4 aj) ρ=sS (kindOf x.1):=λρ h4=>aG [x.1] (by simp[h4]) (iW U);have M:∀ρ:DL.Env,ρ[4]? = some (some (x.1,false))->bj (f2 dA (fA aM (fV 4 aj)) (fA aW (af (fS "named") (af (fS "chosen") (af (fS "heir") aj))))) ρ=some (!decide (kindOf x.1∈wB)):=λρ h4=>
  cI (bo (.str (kindOf x.1)) (.tup (wB.map .str)) (hw ρ h4) (by simp[sizeLine,wB]) (kE _ _))
 by_cases hd:kindOf x.1 = "death"
 ·obtain⟨a,k,aE,e,d⟩:=U;have hk:k = "death":=by rw[e]at hd;exact hd
  subst hk;obtain⟨dd,p,rfl⟩:=d.deed.three (by decide +kernel);have hc:cP (ao ab aa) G x=io (ao ab aa) p dd x.2:=by
   unfold cP;rw[if_pos hd,e];rfl
  rw[hc];exact av rfl (fF x.1 (by simp[ha]) hf (bq (bS (bb:=false) (hw _ rfl) (sv hd)) (ax (aG [.tup ab,.int aa,.int x.2] rfl (F4 g aa hx e)))))
 ·by_cases h3:kindOf x.1∈wB
  ·have M6:au [x.1,.str "office"]=sS (F5 x.1):=by
    obtain⟨a,k,aE,e,d⟩:=U;rw[e]at h3 hd O ⊢;replace h3:k∈wB:=h3;clear hd O;cases d with
    |root=>exact cS h3
    |named d o p=>exact b9 (i:=1) dh rfl
    |chosen d b o p s=>exact b9 (i:=2) dh rfl
    |heir d b o p=>exact b9 (i:=2) dh rfl
    |three _ hk=>rcases hk with rfl|rfl|rfl<;>exact cS h3
    |other _ hk=>rcases hk with rfl|rfl|rfl|rfl|rfl<;>exact cS h3
   have e5:∀ρ:DL.Env,ρ[0]? = some (sT ab)->ρ[1]? = some (sI aa)->ρ[4]? = some (some (x.1,false))->f2 EO (fA gu (fV 0 (fV 1 aj))) (fA au (fV 4 (af (fS "office") aj))) ρ=some ((BH (ao ab aa) (F5 x.1)).getD .non,false):=λρ q0 q1 q4=>
    bo (.dk (ca (mM (ao ab aa))).1 (ca (mM (ao ab aa))).2) (.str (F5 x.1)) (aG [.tup ab,.int aa] (by simp[q0,q1]) (rm g aa)) (aG [x.1,.str "office"] (by simp[q4]) M6) rfl
   cases hr:BH (ao ab aa) (F5 x.1) with
   |none=>
    rw[hr]at e5;have hc:cP (ao ab aa) G x=false:=by unfold cP;rw[if_neg hd,if_pos h3,hr]
    rw[hc];exact av rfl (fF x.1 (by simp[ha]) hf (a9 (bS (bb:=false) (hw _ rfl) (MO hd)) (a9 (by rw[M _ rfl,sv h3];rfl) (fF .non (e5 _ rfl rfl rfl) rfl (bq (cI (bo .non .non rfl rfl (by simp))) (ax rfl))))))
   |some v=>
    rw[hr]at e5;obtain⟨va,vo,XV,vm,vf,ev⟩:=yC g hr;have TW:bx v=true:=by rw[ev];rfl
    have TX:D4 v .non=sO false:=by rw[ev];simp[row]
    by_cases hn:kindOf x.1 = "named"
    ·have hc:cP (ao ab aa) G x=true:=by unfold cP;rw[if_neg hd,if_pos h3,hr];dsimp only;rw[if_pos hn]
     rw[hc];exact av rfl (fF x.1 (by simp[ha]) hf (a9 (bS (bb:=false) (hw _ rfl) (MO hd)) (a9 (by rw[M _ rfl,sv h3];rfl) (fF v (e5 _ rfl rfl rfl) TW (a9 (cI (bo v .non rfl rfl TX)) (bq (bS (bb:=false) (hw _ rfl) (sv hn)) (ax rfl)))))))
    ·have hc:cP (ao ab aa) G x=(wA (ao ab aa) x.1 && im G (az 0 v) (az 3 v) (az 1 x.1) (aF x.1)):=by unfold cP;rw[if_neg hd,if_pos h3,hr];dsimp only;rw[if_neg hn]
     have TY:au [x.1,.str "by"]=sS (az 1 x.1)/\aS [x.1]=sI (aF x.1):=by
      refine⟨?_,by rw[qZ U];unfold sk;rw[O];rfl⟩;obtain⟨a,k,aE,e,d⟩:=U;rw[e]at h3 hn ⊢;replace h3:k∈wB:=h3;cases d with
      |root=>exact cS h3
      |named=>exact absurd rfl hn
      |chosen d b o p s=>exact b9 (i:=1) dh rfl
      |heir d b o p=>exact b9 (i:=1) dh rfl
      |three _ hk=>rcases hk with rfl|rfl|rfl<;>exact cS h3
      |other _ hk=>rcases hk with rfl|rfl|rfl|rfl|rfl<;>exact cS h3
     have hs:=mI ab g.rp g.le aa (b8 hx);rw[Iw hh]at hs;have T:cO [.lst (G.map aV),v,.str (az 1 x.1),.int (aF x.1)]=sO (im G (az 0 v) (az 3 v) (az 1 x.1) (aF x.1)):=by
      rw[ev];exact w4 G Po _ _
     rw[hc];refine av rfl (fF x.1 (by simp[ha]) hf (a9 (bS (bb:=false) (hw _ rfl) (MO hd)) (a9 (by rw[M _ rfl,sv h3];rfl) (fF v (e5 _ rfl rfl rfl) TW (a9 (cI (bo v .non rfl rfl TX)) (a9 (bS (bb:=false) (hw _ rfl) (MO hn)) (ax ?_)))))));exact dB (b1:=false) (aG [.tup ab,.int aa,.int x.2] rfl hs) λ_=>aG [.lst (G.map aV),v,.str (az 1 x.1),.int (aF x.1)] (bR rfl (bR rfl (aD (aG [x.1,.str "by"] rfl TY.1) (aD (aG [x.1] rfl TY.2) rfl)))) T
  ·have hc:cP (ao ab aa) G x=false:=by unfold cP;rw[if_neg hd,if_neg h3]
   rw[hc];exact av rfl (fF x.1 (by simp[ha]) hf (a9 (bS (bb:=false) (hw _ rfl) (MO hd)) (bq (by rw[M _ rfl,MO h3];rfl) (ax rfl))))
def gm (G:LS)(p:Str)(day:Int)(c:Cl):List Cl :=
 if(!decide (c.o∈G) || (!decide (c.p=p) || !(ii c day || decide (day<c.s))))=true then [c]else if c.s<day then [⟨c.o,p,c.s,some day,c.n⟩]else []
noncomputable def ci (M:List Cl)(G:LS)(p:Str)(day:Int):List Cl:=M.flatMap (gm G p day)
theorem gn (G:LS)(p:Str)(day:Int):∀M:List Cl,(ci M G p day).length<=M.length
 |[]=>vT _
 |c::M=>by
  unfold ci;rw[uO,uZ,vE];have h1:=gn G p day M;have h2:(gm G p day c).length<=1:=by
   unfold gm;split
   ·simp
   ·split<;>simp
  unfold ci at h1;omega
def An (k:Str)(G:LS):dA (.str k) (.lst (G.map .str))=sO (!decide (k∈G)):=by
 simp only[dA,jf,vJ,qV];rw[if_pos ⟨rfl,nG G⟩]
def yD (M:List Cl)(Po:M.length<=60)(G:LS)(p:Str)(day:Int):oZ [.lst (M.map aV),.lst (G.map .str),.str p,.int day]=lT ((ci M G p day).map aV):=by
 obtain⟨ρ',e,v5,rfl⟩:=eW (tg:=cC 5) (g:=qE) (λj ρ=>∃v5:OB,ρ=[sL (M.map aV),sL (G.map .str),sS p,sI day,lT ((ci (M.take j) G p day).map aV),v5]) (M.map aV)
  [sL (M.map aV),sL (G.map .str),sS p,sI day,lT [],none] ⟨none,rfl⟩ (by
   rintro j d ρ hd ⟨v5,rfl⟩;rw[vA]at hd;obtain⟨c,hc,rfl⟩:=oY hd;have hj:j<M.length:=(vV hc).1;have et:ci (M.take (j+1)) G p day=ci (M.take j) G p day++gm G p day c:=by
    unfold ci;rw[take_add_one,hc,toList_some,List.flatMap_append,uO,flatMap_nil,uQ]
   have kJ:(ci (M.take j) G p day).length<=60:=vR (gn G p day _) (by rw[length_take];omega);let T:DL.Env:=[sL (M.map aV),sL (G.map .str),sS p,sI day,lT ((ci (M.take j) G p day).map aV),some (aV c,false)];have q0:cH 5 0 T=sS c.o:=bo (aV c) (.int 0) rfl rfl (O5 c);have q1:cH 5 1 T=sS c.p:=bo (aV c) (.int 1) rfl rfl (MJ c);have q2:cH 5 2 T=sI c.s:=bo (aV c) (.int 2) rfl rfl (P7 c);have q4:cH 5 4 T=sI c.n:=bo (aV c) (.int 4) rfl rfl (P8 c);have O:gY (bj (f2 dA (cH 5 0) (ai 1))) (gY (bj (f2 uL (cH 5 1) (ai 2))) (dC (gY (bj (fA cR (fV 5 (fV 3 aj)))) (bj (f2 AF (cH 5 2) (ai 3)))))) T=some (!decide (c.o∈G) || (!decide (c.p=p) || !(ii c day || decide (day<c.s)))) :=
    bV (cI (bo (.str c.o) (.lst (G.map .str)) q0 rfl (An _ _))) λ_=>bV (cI (bo (.str c.p) (.str p) q1 rfl (by simp))) λ_=>bI (bV (cI (aG [aV c,.int day] rfl (ra c day))) λ_=>cI (bo (.int c.s) (.int day) q2 rfl (by simp)))
   by_cases h1:(!decide (c.o∈G) || (!decide (c.p=p) || !(ii c day || decide (day<c.s))))=true
   ·have U:gm G p day c=[c]:=by unfold gm;rw[if_pos h1]
    rw[h1]at O;refine⟨_,_,rfl,.inl (jP O (iR (ds:=(ci (M.take j) G p day).map aV) (d:=aV c) (b:=false) rfl rfl (mJ c) (bD (by simp;omega)))),some (aV c,false),?_⟩;rw[et,U,uW];rfl
   ·rw[not_eq_true]at h1;rw[h1]at O;by_cases h2:c.s<day
    ·have U:gm G p day c=[⟨c.o,p,c.s,some day,c.n⟩]:=by unfold gm;rw[if_neg (by rw[h1];decide),if_pos h2]
     refine⟨_,_,rfl,.inl (kj O (jP (cI (bo (.int c.s) (.int day) q2 rfl (by simp[h2]))) (iR (ds:=(ci (M.take j) G p day).map aV) (d:=aV ⟨c.o,p,c.s,some day,c.n⟩) (b:=false) rfl (aG [.str c.o,.str p,.int c.s,.int day,.int c.n] (aD q0 (bR rfl (aD q2 (bR rfl (aD q4 rfl))))) (c7 _ (by simp))) (mJ _) (bD (by simp;omega))))),some (aV c,false),?_⟩;rw[et,U,uW];rfl
    ·have U:gm G p day c=[]:=by unfold gm;rw[if_neg (by rw[h1];decide),if_neg h2]
     refine⟨_,_,rfl,.inl (kj O (kj (cI (bo (.int c.s) (.int day) q2 rfl (by simp;omega))) rfl)),some (aV c,false),?_⟩;rw[et,U,uQ];rfl)
 have e':gw (cC 5) qE (M.map aV) [sL (M.map aV),sL (G.map .str),sS p,sI day,lT [],none]=some (.nx [sL (M.map aV),sL (G.map .str),sS p,sI day,lT ((ci M G p day).map aV),v5]):=by
  rw[e];have:M.take (M.map aV).length=M:=by rw[vI,take_length]
  rw[this]
 exact av rfl (cj (ds:=[]) (by simp[sizeLine]) rfl (cz (iF (ds:=M.map aV) (by simp[fE]) e') (oV rfl)))
def Kc (ho:au [r,.str "office"]=sS o)(hp:au [r,.str "person"]=sS p)(s:Int)(n:Nat):gB [r,.int s,.int n]=some (aV ⟨o,p,s,none,n⟩,false) :=
 av rfl (ax (aG [.str o,.str p,.int s,.non,.int n] (aD (aG [r,.str "office"] rfl ho) (aD (aG [r,.str "person"] rfl hp) rfl)) (c7 _ (by simp))))
def Dh (G:List Cl)(M:G.length<=60)(n:Nat):ia [.lst (G.map aV),row a ("chosen" : Str) [.int d,.str b,.str o,.str p,.int s],.int n]=lT ((ci G [o] b s++[(⟨o,p,s,none,n⟩:Cl)]).map aV):=by
 let r:D:=row a ("chosen" : Str) [.int d,.str b,.str o,.str p,.int s];have ho:au [r,.str "office"]=sS o:=b9 (i:=2) dh rfl;have hp:au [r,.str "person"]=sS p:=b9 (i:=3) dh rfl;have hb:au [r,.str "by"]=sS b:=b9 (i:=1) dh rfl;have hs:au [r,.str "since"]=sI s:=b9 (i:=4) dh rfl;have hl:=gn [o] b s G;refine av rfl (fF (.int s) (aG [r,.str "since"] rfl hs) rfl (cj (ds:=(ci G [o] b s).map aV) (aG [.lst (G.map aV),.lst ([o].map .str),.str b,.int s] (bR rfl (aD (b:=true) (aG [.str o] (aD (aG [r,.str "office"] rfl ho) rfl) (gk _ (by simp))) (aD (aG [r,.str "by"] rfl hb) rfl))) (yD G M [o] b s)) (jt _) (ax ?_)));refine fW (x:=.lst ((ci G [o] b s).map aV)) (y:=.lst [aV ⟨o,p,s,none,n⟩]) (b1:=false) (b2:=true) rfl (aG [aV ⟨o,p,s,none,n⟩] (aD (aG [r,.int s,.int n] rfl (Kc ho hp s n)) rfl) (gk _ (by simp))) ?_;rw[uW];exact if_pos (cZ (by rw[vI,length_singleton];omega))
noncomputable def yE (hk:List LK)(hv:LD)(o p:Str):Option Str:=match bO hk hv [.inr o,.inr p] with
 |some (.str h)=>some h
 |_=>none
def eA (K:KL)(hk:List LK)(hv:LD)(p:Str)(day:Int)(n:Nat)(o:Str):List Cl:=match yE hk hv o p with
 |some h=>if ro K h day=true then [⟨o,h,day,none,n⟩]else []
 |none=>[]
def dq (G:List Cl)(p:Str)(day:Int):LS:=ln (iP ((G.filter λc=>decide (c.p=p) && ii c day).map (·.o)))
def rq (K:KL)(G:List Cl)(hk:List LK)(hv:LD)(p:Str)(day:Int)(n:Nat):List Cl:=(dq G p day).flatMap (eA K hk hv p day n)
def lQ (K:KL)(hk:List LK)(hv:LD)(p:Str)(day:Int)(n:Nat)(o:Str):(eA K hk hv p day n o).length<=1:=by
 unfold eA;split
 ·split<;>simp
 ·simp
theorem rz {α G:Type}(f:α->List G)(h:∀a,(f a).length<=1):∀l:List α,(l.flatMap f).length<=l.length
 |[]=>vT _
 |a::l=>by
  rw[uO,uZ,vE];have:=h a;have:=rz f h l;omega
def yF (G:List Cl)(p:Str)(day:Int):(dq G p day).length<=G.length:=by
 unfold dq;rw[(gb _).length_eq];refine vR (pK _) ?_;rw[vI];exact vM _ _
def wC (g:gE ab)(aa:Int)(G:List Cl)(Po:G.length<=60)(hk:List LK)(hv:LD)(W9:∀v∈hv,∃s,v=.str s)(hx:x∈ao ab aa)(e:x.1=row a ("death" : Str) [.int d,.str p]):
  ko [.tup ab,.int aa,.lst (G.map aV),.dt hk hv,.int x.2]=lT ((rq (ao ab aa) G hk hv p d x.2).map aV):=by
 have ha:=(du g hx).1;have U:au [x.1,.str "person"]=sS p:=by rw[e];exact b9 (i:=1) dh rfl
 have Gr:aS [x.1]=sI d:=by rw[e];exact jr (.inl (by decide +kernel)) rfl
 have TZ:=yF G p d;have Pp:∀(o:Str)(l:List Cl)(v9:OB),l.length<=60->gP [sT ab,sI aa,sL (G.map aV),sF (.dt hk hv),sI x.2,sS p,sI d,lT (l.map aV),sS o,v9]=some (.nx [sT ab,sI aa,sL (G.map aV),sF (.dt hk hv),sI x.2,sS p,sI d,lT ((l++eA (ao ab aa) hk hv p d x.2 o).map aV),sS o,some ((bO hk hv [.inr o,.inr p]).getD .non,false)]):=λo l v9 hl=>by
  have eg:EX (ai 3) (fV 8 (fV 5 aj)) [sT ab,sI aa,sL (G.map aV),sF (.dt hk hv),sI x.2,sS p,sI d,lT (l.map aV),sS o,v9]=some ((bO hk hv [.inr o,.inr p]).getD .non,false):=by
   simp[iE,sizeLine]
  cases M:bO hk hv [.inr o,.inr p] with
  |none=>
   rw[M]at eg;have ei:eA (ao ab aa) hk hv p d x.2 o=[]:=by unfold eA yE;rw[M]
   rw[ei,uQ];exact fF .non eg rfl (kj (fN (p:=false) (q:=false) (cI (by simp)) (by simp)) rfl)
  |some v=>
   obtain⟨h,rfl⟩:=W9 v (ri M);rw[M]at eg;have RX:=y9 ab g.rp g.le aa h d;rw[Iv]at RX;have T:∀ρ:DL.Env,ρ[0]? = some (sT ab)->ρ[1]? = some (sI aa)->ρ[6]? = some (sI d)->ρ[9]? = some (sS h)->fG (bj (f2 lA (ai 9) (fC .non))) (bj (fA m7 (fV 0 (fV 1 (fV 9 (fV 6 aj)))))) ρ=some (true && ro (ao ab aa) h d):=λρ q0 q1 q6 q9=>
    fN (cI (by simp[q9])) λ_=>cI (aG [.tup ab,.int aa,.str h,.int d] (by simp[q0,q1,q6,q9]) RX)
   cases O:ro (ao ab aa) h d with
   |false=>
    have ei:eA (ao ab aa) hk hv p d x.2 o=[]:=by unfold eA yE;rw[M];dsimp only;rw[O];rfl
    rw[ei,uQ];exact fF (.str h) eg rfl (kj (by rw[T _ rfl rfl rfl rfl,O];rfl) rfl)
   |true=>
    have ei:eA (ao ab aa) hk hv p d x.2 o=[⟨o,h,d,none,x.2⟩]:=by unfold eA yE;rw[M];dsimp only;rw[O];rfl
    rw[ei,uW];exact fF (.str h) eg rfl (jP (by rw[T _ rfl rfl rfl rfl,O];rfl) (iR (ds:=l.map aV) (d:=aV ⟨o,h,d,none,x.2⟩) (b:=false) rfl (aG [.str o,.str h,.int d,.non,.int x.2] rfl (c7 _ (by simp))) rfl (bD (by simp;omega))))
 obtain⟨ρ',el,v8,v9,rfl⟩:=eW (tg:=cC 8) (g:=gP) (λj ρ=>∃v8 v9:OB,ρ=[sT ab,sI aa,sL (G.map aV),sF (.dt hk hv),sI x.2,sS p,sI d,lT ((((dq G p d).take j).flatMap (eA (ao ab aa) hk hv p d x.2)).map aV),v8,v9]) ((dq G p d).map .str)
  [sT ab,sI aa,sL (G.map aV),sF (.dt hk hv),sI x.2,sS p,sI d,lT [],none,none] ⟨none,none,rfl⟩ (by
   rintro j dd ρ hd ⟨v8,v9,rfl⟩;rw[vA]at hd;obtain⟨o,ho,rfl⟩:=oY hd;have hl:(((dq G p d).take j).flatMap (eA (ao ab aa) hk hv p d x.2)).length<=60:=vR (rz _ (lQ _ _ _ _ _ _) _) (by rw[length_take];omega);refine⟨_,_,rfl,.inl (Pp o _ v9 hl),sS o,some ((bO hk hv [.inr o,.inr p]).getD .non,false),?_⟩;rw[take_add_one,ho,toList_some,List.flatMap_append,uO,flatMap_nil,uQ])
 have e':gw (cC 8) gP ((dq G p d).map .str) [sT ab,sI aa,sL (G.map aV),sF (.dt hk hv),sI x.2,sS p,sI d,lT [],none,none]=some (.nx [sT ab,sI aa,sL (G.map aV),sF (.dt hk hv),sI x.2,sS p,sI d,lT ((rq (ao ab aa) G hk hv p d x.2).map aV),v8,v9]):=by
  rw[el];have:(dq G p d).take ((dq G p d).map D.str).length=dq G p d:=by rw[vI,take_length]
  rw[this];rfl
 have RY:∀ρ:DL.Env,ρ[2]? = some (sL (G.map aV))->ρ[5]? = some (sS p)->ρ[6]? = some (sI d)->bP (f1 g8 (bK (bP (ai 2)) 1 [5,6] (cC 0) (fG (bj (f2 dJ (cH 0 1) (ai 1))) (bj (fA cR (fV 0 (fV 2 aj))))) (cH 0 0))) ρ=some ((dq G p d).map .str):=λρ q2 q5 q6=>by
  have hc:=g9 (fi:=bP (ai 2)) (nT:=1) (cap:=[5,6]) (tg:=cC 0) (c:=fG (bj (f2 dJ (cH 0 1) (ai 1))) (bj (fA cR (fV 0 (fV 2 aj))))) (fe:=cH 0 0) (ρ:=ρ) G aV (λc=>decide (c.p=p) && ii c d) (λc=>.str c.o) (by simp[q2]) (by omega) λc hc=>
   ⟨_,rfl,fN (cI (bo (.str c.p) (.str p) (bo (aV c) (.int 1) (by simp[dN]) rfl (MJ c)) (by simp[dN,q5]) (by simp))) λ_=>cI (aG [aV c,.int d] (by simp[dN,q6]) (ra c d)),λ_=>⟨false,bo (aV c) (.int 0) (by simp[dN]) rfl (O5 c)⟩⟩
  have e2:(G.filter λc=>decide (c.p=p) && ii c d).map (λc=>D.str c.o)=((G.filter λc=>decide (c.p=p) && ii c d).map (·.o)).map .str:=by rw[uP];rfl
  rw[e2]at hc;show(f1 g8 _ ρ).bind _=_;unfold f1;rw[hc,vJ];have WA:((G.filter λc=>decide (c.p=p) && ii c d).map (·.o)).length<64:=by rw[vI];exact lt_of_le_of_lt (vM _ _) (by omega)
  show((iD _).bind _).bind _=_;rw[rh,vJ,if_pos WA];rfl
 refine av rfl (fF (.str p) (aG [x.1,.str "person"] (by simp[ha]) U) rfl (fF (.int d) (aG [x.1] (by simp[ha]) Gr) rfl (cj (ds:=[]) (by simp[sizeLine]) rfl (cz (ρ':=[sT ab,sI aa,sL (G.map aV),sF (.dt hk hv),sI x.2,sS p,sI d,lT ((rq (ao ab aa) G hk hv p d x.2).map aV),v8,v9]) ?_ (oV rfl)))));exact iF (ρ:=[sT ab,sI aa,sL (G.map aV),sF (.dt hk hv),sI x.2,sS p,sI d,lT [],none,none]) (RY _ rfl rfl rfl) e'
def F6 (g:gE ab)(aa:Int)(G:List Cl)(M:G.length<=60)(hk:List LK)(hv:LD)(U:∀v∈hv,∃s,v=.str s)(hx:x∈ao ab aa)(e:x.1=row a ("death" : Str) [.int d,.str p]):
  iS [.tup ab,.int aa,.lst (G.map aV),.dt hk hv,.int x.2]=lT ((ci G (G.map Cl.o) p d++rq (ao ab aa) G hk hv p d x.2).map aV):=by
 have ha:=(du g hx).1;have O:au [x.1,.str "person"]=sS p:=by rw[e];exact b9 (i:=1) dh rfl
 have T:aS [x.1]=sI d:=by rw[e];exact jr (.inl (by decide +kernel)) rfl
 have h1:=km (fi:=bP (ai 2)) (nT:=1) (cap:=[]) (tg:=cC 0) (fe:=cH 0 0) (ρ:=[sT ab,sI aa,sL (G.map aV),sF (.dt hk hv),sI x.2,none,none]) G aV (λc=>.str c.o) (by simp) (by omega) λc hc=>⟨_,rfl,false,bo (aV c) (.int 0) (by simp[dN]) rfl (O5 c)⟩;have e2:G.map (λc=>D.str c.o)=(G.map Cl.o).map .str:=by rw[uP];rfl
 rw[e2]at h1;have Kl:=gn (G.map Cl.o) p d G;have Jq:(rq (ao ab aa) G hk hv p d x.2).length<=60:=vR (rz _ (lQ _ _ _ _ _ _) _) (vR (yF G p d) M);refine av rfl (cj (ds:=(G.map Cl.o).map .str) h1 (dY _) (cj (ds:=(ci G (G.map Cl.o) p d).map aV) (aG [.lst (G.map aV),.lst ((G.map Cl.o).map .str),.str p,.int d] (bR rfl (bR rfl (bR (aG [x.1,.str "person"] (by simp[ha]) O) (bR (aG [x.1] (by simp[ha]) T) rfl)))) (yD G M _ p d)) (jt _) (ax ?_)));refine fW (x:=.lst ((ci G (G.map Cl.o) p d).map aV)) (y:=.lst ((rq (ao ab aa) G hk hv p d x.2).map aV)) (b1:=false) (b2:=true) rfl (aG [.tup ab,.int aa,.lst (G.map aV),.dt hk hv,.int x.2] rfl (wC g aa G M hk hv U hx e)) ?_;rw[uW];exact if_pos (cZ (by rw[vI,vI];omega))
abbrev MN:=List Cl×List LK×LD
def eX (K:KL)(st:MN)(x:D×Nat):MN :=
 if cP K st.1 x=true then
  if kindOf x.1 = "named" then (st.1++[⟨az 1 x.1,az 2 x.1,aF x.1,none,x.2⟩],st.2)
  else if kindOf x.1 = "chosen" then (ci st.1 [az 2 x.1] (az 1 x.1) (gL 4 x.1)++[⟨az 2 x.1,az 3 x.1,gL 4 x.1,none,x.2⟩],st.2)
  else if kindOf x.1 = "heir" then (st.1,dG st.2.1 [.inr (az 2 x.1),.inr (az 1 x.1)],dH st.2.1 st.2.2 [.inr (az 2 x.1),.inr (az 1 x.1)] (.str (az 3 x.1)))
  else (ci st.1 (st.1.map Cl.o) (az 1 x.1) (aF x.1)++rq K st.1 st.2.1 st.2.2 (az 1 x.1) (aF x.1) x.2,st.2)
 else st
def cB (K:KL):KL:=eI (λx=>cQ (kA x)) (K.filter λx=>!bi x.1)
noncomputable def mN (K:KL)(l:KL):MN:=l.foldl (eX K) ([],[],[])
noncomputable def kC (c:Cl):List At:=[.s c.o,.i c.s,.i c.n]
def bw (K:KL):List Cl:=eI (λc=>cQ (kC c)) (mN K (cB K)).1
noncomputable def Ao:LK->Str
 |[_,.inr p]=>p
 |_=>("" : Str)
noncomputable def Ix (dd:LS)(ks:List LK):Nat:=(ks.filter λk=>decide (Ao k∉dd)).length
structure zg (K l:KL)(dd:List Str)(st:MN):Prop where
 len:st.1.length+Ix dd st.2.1<=l.length
 ded:∀q∈dd,∃y∈l,io K q (aF y.1) y.2=true
 nod:(st.1.map λc=>(c.o,c.n)).Nodup
 num:∀c∈st.1,c.n∈l.map (·.2)
 hs:∀v∈st.2.2,∃s,v=D.str s
 hk:st.2.1.length<=l.length
def BI (h:told ws p d r=true):aF r<=d/\∀d',aF r<=d'->told ws p d' r=true:=by
 unfold told at h;split at h
 ·rename_i k aE;rw[vC]at h;obtain⟨h1,h2⟩:=h;unfold tX at h2;split at h2
  ·rename_i dd q;rw[vC]at h2;refine⟨OH h2.2,λd' hd=>?_⟩;unfold told;rw[vC];refine⟨h1,?_⟩;unfold tX;rw[vC];exact⟨h2.1,sv hd⟩
  ·cases h2
 ·cases h
theorem r0:∀(r:KL)(b:D×Nat),oJ b r∈b::r/\∀y∈b::r,c6 y (oJ b r)=false
 |[],b=>⟨by simp[oJ],λy hy=>by rw[uT hy];simp[oJ,c6]⟩
 |x::r,b=>by
  rw[oJ,Ak];by_cases h:c6 x b=true
  ·rw[if_pos (by rw[h])];obtain⟨h1,h2⟩:=r0 r x;refine⟨mZ _ h1,λy hy=>?_⟩;rcases vP hy with rfl|hy
   ·have:=h2 x mX;unfold c6 at *;simp at *;omega
   ·exact h2 y hy
  ·rw[if_neg (by simpa using h)];obtain⟨h1,h2⟩:=r0 r b;refine⟨?_,λy hy=>?_⟩
   ·rcases vP h1 with e|e
    ·rw[e];exact mX
    ·exact mZ _ (mZ _ e)
   ·rcases vP hy with rfl|hy
    ·exact h2 _ mX
    ·rcases vP hy with rfl|hy
     ·have:=h2 b mX;unfold c6 at *;simp at *;omega
     ·exact h2 y (mZ _ hy)
def r6 (h:io K p d i=true):∃m∈K,told dZ p d m.1=true/\m.2=i/\∀y∈K,told dZ p d y.1=true->c6 y m=false:=by
 unfold io at h;split at h
 ·cases h
 ·rename_i b r e;obtain⟨h1,h2⟩:=r0 r b;rw[←e]at h1 h2;obtain⟨h3,h4⟩:=vN h1;exact⟨_,h3,h4,OH h,λy hy G=>h2 y (mem_filter.mpr ⟨hy,G⟩)⟩
def Ap (h1:io K p d1 i1=true)(h2:io K p d2 i2=true):i1=i2:=by
 obtain⟨O,k1,t1,e1,U⟩:=r6 h1;obtain⟨T,k2,t2,e2,q2⟩:=r6 h2;have a1:=BI t1;have a2:=BI t2;by_cases hd:d1<=d2
 ·have G:=q2 O k1 (a1.2 d2 (by omega));have hm:aF T.1<=aF O.1:=by unfold c6 at G;simp at G;omega
  have M:=U T k2 (a2.2 d1 (by omega));unfold c6 at G M;simp at G M;omega
 ·have G:=U T k2 (a2.2 d1 (by omega));have hm:aF O.1<=aF T.1:=by unfold c6 at G;simp at G;omega
  have M:=q2 O k1 (a1.2 d2 (by omega));unfold c6 at G M;simp at G M;omega
theorem yG {κ:Type}[DecidableEq κ]:∀ {ks:List κ}{vs:LD}{k:κ}{v:D},bO ks vs k=some v->k∈ks
 |k'::ks,d::ds,k,v,h=>by
  unfold bO at h;split at h
  ·rename_i e;rw[←e];exact mX
  ·exact mZ _ (yG h)
 |[],_,_,_,h=>by simp[bO]at h
 |_::_,[],_,_,h=>by simp[bO]at h
theorem rA (p:Str)(dd:LS)(hp:p∉dd):∀ks:List LK,Ix dd ks=Ix (p::dd) ks+(ks.filter λk=>decide (Ao k=p)).length
 |[]=>rfl
 |k::ks=>by
  have G:=rA p dd hp ks;unfold Ix at G ⊢;by_cases e:Ao k=p
  ·rw[filter_cons_of_pos (by simpa [e]using hp),filter_cons_of_neg (by simp[e]),filter_cons_of_pos (by simp[e]),vE,vE];omega
  ·by_cases h:Ao k∈dd
   ·rw[filter_cons_of_neg (by simp[h]),filter_cons_of_neg (by simp[h]),filter_cons_of_neg (by simp[e])];exact G
   ·rw[filter_cons_of_pos (by simp[h]),filter_cons_of_pos (by simp[h,e]),filter_cons_of_neg (by simp[e]),vE,vE];omega
theorem kU (G:LS)(p:Str)(day:Int):∀M:List Cl,((ci M G p day).map λc=>(c.o,c.n)).Sublist (M.map λc=>(c.o,c.n))
 |[]=>List.Sublist.slnil
 |c::M=>by
  have O:=kU G p day M;unfold ci at O ⊢;rw[uO,uW,uY];have:((gm G p day c).map λc=>(c.o,c.n))=[(c.o,c.n)]∨((gm G p day c).map λc=>(c.o,c.n))=[]:=by
   unfold gm;split
   ·exact .inl rfl
   ·split
    ·exact .inl rfl
    ·exact .inr rfl
  rcases this with h|h
  ·rw[h];exact O.cons₂ _
  ·rw[h];exact O.cons _
def kW (h:c∈ci so offs p day):∃G∈so,G.o=c.o/\G.n=c.n:=by
 have:=(kU offs p day so).subset (uS ⟨c,h,rfl⟩);obtain⟨G,h1,h2⟩:=vO this;injection h2 with h3 h4;exact⟨G,h1,h3,h4⟩
theorem ju:∀(G M:LS),M.Nodup->(G.foldl jO M).Nodup
 |[],_,h=>h
 |s::G,M,h=>ju G _ (zP h s)
def rB (G:List Cl)(p:Str)(day:Int):(dq G p day).Nodup:=(gb _).nodup_iff.mpr (ju _ [] nodup_nil)
theorem yH (K:KL)(hk:List LK)(hv:LD)(p:Str)(day:Int)(n:Nat):∀os:LS,((os.flatMap (eA K hk hv p day n)).map λc=>(c.o,c.n)).Sublist (os.map λo=>(o,n))
 |[]=>List.Sublist.slnil
 |o::os=>by
  have G:=yH K hk hv p day n os;rw[uO,uW,uY];have:((eA K hk hv p day n o).map λc=>(c.o,c.n))=[(o,n)]∨((eA K hk hv p day n o).map λc=>(c.o,c.n))=[]:=by
   unfold eA;split
   ·split
    ·exact .inl rfl
    ·exact .inr rfl
   ·exact .inr rfl
  rcases this with h|h
  ·rw[h];exact G.cons₂ _
  ·rw[h];exact G.cons _
theorem uc {α:Type}[DecidableEq α]:∀(l m:List α),l.Nodup->(∀x∈l,x∈m)->l.length<=m.length
 |[],_,_,_=>uN _
 |x::l,m,h,s=>by
  rw[nodup_cons]at h;have hx:=s x mX;have:=uc l (m.erase x) h.2 λy hy=>(List.mem_erase_of_ne (a:=y) (b:=x) (λe=>h.1 (by rw[←e];exact hy))).mpr (s y (mZ _ hy));rw[List.length_erase_of_mem hx]at this;have:0<m.length:=List.length_pos_of_mem hx;rw[vE];omega
theorem ud {α G:Type}(f:α->List G)(q:α->Bool)(h:∀a,(f a).length<=1/\(q a=false->f a=[])):∀l:List α,(l.flatMap f).length<=(l.filter q).length
 |[]=>vT _
 |a::l=>by
  have M:=ud f q h l;rw[uO,uZ];cases hq:q a with
  |true=>rw[filter_cons_of_pos hq,vE];have:=(h a).1;omega
  |false=>rw[filter_cons_of_neg (by rw[hq];decide),(h a).2 hq];simpa using M
def Iy (K:KL)(G:List Cl)(hk:List LK)(hv:LD)(p:Str)(day:Int)(n:Nat):(rq K G hk hv p day n).length<=(hk.filter λk=>decide (Ao k=p)).length:=by
 refine vR (ud _ (λo=>(bO hk hv [.inr o,.inr p]).isSome) (λo=>⟨lQ _ _ _ _ _ _ _,λh=>?_⟩) _) ?_
 ·have hl:bO hk hv [.inr o,.inr p]=none:=by simpa using h
  unfold eA yE;rw[hl]
 ·have M:(((dq G p day).filter λo=>(bO hk hv [.inr o,.inr p]).isSome).map λo=>([.inr o,.inr p]:LK)).Nodup:=List.Pairwise.map _ (λa b O e=>O (by injection e with e _;injection e)) ((rB G p day).filter _);have:=uc _ (hk.filter λk=>decide (Ao k=p)) M λk hm=>by
   obtain⟨o,ho,rfl⟩:=vO hm;obtain⟨v,hv⟩:=uU (vN ho).2;exact mem_filter.mpr ⟨yG hv,sv rfl⟩
  rwa [vI]at this
def zg.step {K l:KL}{dd:LS}{st:MN}(h:zg K l dd st){x:D×Nat}(hx:x.2∉l.map (·.2)):∃WB,zg K (l++[x]) WB (eX K st x):=by
 have up:∀ {n:Nat},n∈l.map (·.2)->n∈(l++[x]).map (·.2):=λh=>by rw[uW];exact mem_append_left _ h
 have me:x.2∈(l++[x]).map (·.2):=by simp
 have T:(l++[x]).length=l.length+1:=by simp
 have M:∀q∈dd,∃y∈l++[x],io K q (aF y.1) y.2=true:=λq hq=>by
  obtain⟨y,h1,h2⟩:=h.ded q hq;exact⟨y,mem_append_left _ h1,h2⟩
 have wk:zg K (l++[x]) dd st:=⟨by have:=h.len;omega,M,h.nod,λc hc=>up (h.num c hc),h.hs,by have:=h.hk;omega⟩;have kJ:=h.len;unfold eX;split
 ·rename_i G;split
  ·refine⟨dd,by simp;omega,M,?_,λc hc=>?_,h.hs,by rw[T];exact le_succ_of_le h.hk⟩
   ·rw[uW,nodup_append];refine⟨h.nod,by simp,λa ha b hb e=>?_⟩;obtain⟨c,hc,rfl⟩:=vO ha;simp at hb;subst hb;injection e with _ e2;exact hx (e2 ▸ h.num c hc)
   ·rcases mem_append.mp hc with hc|hc
    ·exact up (h.num c hc)
    ·rw[uT hc];exact me
  ·split
   ·have hl:=gn [az 2 x.1] (az 1 x.1) (gL 4 x.1) st.1;refine⟨dd,by simp;omega,M,?_,λc hc=>?_,h.hs,by rw[T];exact le_succ_of_le h.hk⟩
    ·rw[uW,nodup_append];refine⟨h.nod.sublist (kU _ _ _ _),by simp,λa ha b hb e=>?_⟩;obtain⟨c,hc,rfl⟩:=vO ha;simp at hb;subst hb;injection e with _ e2;obtain⟨O,h1,_,h3⟩:=kW hc;exact hx (e2 ▸ h3 ▸ h.num O h1)
    ·rcases mem_append.mp hc with hc|hc
     ·obtain⟨O,h1,_,h3⟩:=kW hc;rw[←h3];exact up (h.num O h1)
     ·rw[uT hc];exact me
   ·split
    ·have hp:∀k:LK,Ix dd (dG st.2.1 k)<=Ix dd st.2.1+1/\(dG st.2.1 k).length<=st.2.1.length+1:=λk=>by
      unfold dG;split
      ·omega
      ·have:([k].filter λk=>decide (Ao k∉dd)).length<=1:=vM _ _;unfold Ix;rw[filter_append,uZ,uZ,length_singleton];omega
     refine⟨dd,?_,M,wk.nod,wk.num,λv hv=>?_,?_⟩
     ·have:=(hp [.inr (az 2 x.1),.inr (az 1 x.1)]).1;rw[T];show st.1.length+Ix dd (dG st.2.1 [.inr (az 2 x.1),.inr (az 1 x.1)])<=_;omega
     ·rcases tZ hv with hv|hv
      ·exact⟨_,hv⟩
      ·exact h.hs v hv
     ·have:=(hp [.inr (az 2 x.1),.inr (az 1 x.1)]).2;have:=h.hk;rw[T];show(dG _ _).length<=_;omega
    ·rename_i n1 n2 n3;have hd:kindOf x.1 = "death":=by
      unfold cP at G;by_cases hd:kindOf x.1 = "death"
      ·exact hd
      ·rw[if_neg hd,if_neg (by simp[wB,n1,n2,n3])]at G;cases G
     have hf:io K (az 1 x.1) (aF x.1) x.2=true:=by unfold cP at G;rwa [if_pos hd]at G
     have R1:az 1 x.1∉dd:=λhm=>by
      obtain⟨y,h1,h2⟩:=h.ded _ hm;exact hx (by rw[←Ap h2 hf];exact uS ⟨y,h1,rfl⟩)
     have hl:=gn (st.1.map Cl.o) (az 1 x.1) (aF x.1) st.1;have XW:=Iy K st.1 st.2.1 st.2.2 (az 1 x.1) (aF x.1) x.2;have T9:=rA (az 1 x.1) dd R1 st.2.1;have U:=yH K st.2.1 st.2.2 (az 1 x.1) (aF x.1) x.2 (dq st.1 (az 1 x.1) (aF x.1));have Ua:∀c∈rq K st.1 st.2.1 st.2.2 (az 1 x.1) (aF x.1) x.2,c.o∈dq st.1 (az 1 x.1) (aF x.1)/\c.n=x.2:=λc hc=>by
      have:=U.subset (uS ⟨c,hc,rfl⟩);obtain⟨o,h1,h2⟩:=vO this;injection h2 with h3 h4;exact⟨h3 ▸ h1,h4.symm⟩
     refine⟨az 1 x.1::dd,?_,λq hq=>?_,?_,λc hc=>?_,h.hs,by rw[T];exact le_succ_of_le h.hk⟩
     ·rw[T];show(ci st.1 (st.1.map Cl.o) (az 1 x.1) (aF x.1)++rq K st.1 st.2.1 st.2.2 (az 1 x.1) (aF x.1) x.2).length+Ix _ st.2.1<=_;rw[uZ];omega
     ·rcases vP hq with rfl|hq
      ·exact⟨x,by simp,hf⟩
      ·exact M q hq
     ·rw[uW,nodup_append];refine⟨h.nod.sublist (kU _ _ _ _),List.Nodup.sublist U (List.Pairwise.map _ (λa b hab e=>hab (by injection e)) (rB _ _ _)),λa ha b hb e=>?_⟩;obtain⟨c,hc,rfl⟩:=vO ha;obtain⟨c2,Kr,rfl⟩:=vO hb;injection e with _ e2;obtain⟨O,h1,_,h3⟩:=kW hc;exact hx ((Ua c2 Kr).2 ▸ e2 ▸ h3 ▸ h.num O h1)
     ·rcases mem_append.mp hc with hc|hc
      ·obtain⟨O,h1,_,h3⟩:=kW hc;rw[←h3];exact up (h.num O h1)
      ·rw[(Ua c hc).2];exact me
 ·exact⟨dd,wk⟩
def Iz (e:ρ[i]? = some (some (.dt ks vs,true)))(G:fv ρ=some (d,b))(ek:fk ρ=some kd)(hk:iE kd=some kk)(hf:bx d=true)(h1:ks.length<=1000)(h2:kd.length<=1000):tO i fk fv ρ=some (.nx (ρ.set i (some (.dt (dG ks kk) (dH ks vs kk d),true)))):=by
 unfold tO;rw[e];dsimp only;rw[G,vJ,ek,vJ,hk,vJ,if_pos ⟨hf,bD (by omega),cZ (by omega)⟩]
def QO (a b:Cl):(br (kC a) (kC b)).isSome=true:=by
 unfold kC;rw[br];split
 ·rw[br];split
  ·rw[br];split
   ·rw[br];rfl
   ·rfl
  ·rfl
 ·rfl
def BJ (cs:List Cl):eJ (cs.map kC)=true:=by
 unfold eJ;simp[all_eq_true,QO]
theorem ue {α O:Type}(f:α->O):∀ {l:List α},(l.map f).Nodup->∀ {a b:α},a∈l->b∈l->f a=f b->a=b
 |[],_,_,_,ha,_,_=>by cases ha
 |c::l,h,a,b,ha,hb,e=>by
  rw[uY,nodup_cons]at h;rcases vP ha with M|ha1
  ·rcases vP hb with G|hb1
   ·rw[M,G]
   ·exact absurd (uS ⟨b,hb1,by rw[←e,M]⟩) h.1
  ·rcases vP hb with G|hb1
   ·exact absurd (uS ⟨a,ha1,by rw[e,G]⟩) h.1
   ·exact ue f h.2 ha1 hb1 e
def F7 {cs:List Cl}{a b:Cl}(ha:a∈cs)(hb:b∈cs)(e:cQ (kC a)=cQ (kC b)):(a.o,a.n)=(b.o,b.n):=by
 have h:=ny (BJ cs) (uS ⟨a,ha,rfl⟩) (uS ⟨b,hb,rfl⟩) e;unfold kC at h;injection h with h1 h2;injection h1 with h1;injection h2 with _ h3;injection h3 with h3 _;injection h3 with h3;rw[h1,show a.n=b.n by omega]
def IA (g:gE ab)(aa:Int)(h:zg (ao ab aa) l dd st)(hj:l.length<=60)(hx:x∈ao ab aa)(Ub:bi x.1=false)(v5:OB):
  ∃w5,(kR [sT ab,sI aa,lT (st.1.map aV),some (.dt st.2.1 st.2.2,true),sI x.2,v5]=some (.nx [sT ab,sI aa,lT ((eX (ao ab aa) st x).1.map aV),some (.dt (eX (ao ab aa) st x).2.1 (eX (ao ab aa) st x).2.2,true),sI x.2,w5])
   ∨ kR [sT ab,sI aa,lT (st.1.map aV),some (.dt st.2.1 st.2.2,true),sI x.2,v5]=some (.ct [sT ab,sI aa,lT ((eX (ao ab aa) st x).1.map aV),some (.dt (eX (ao ab aa) st x).2.1 (eX (ao ab aa) st x).2.2,true),sI x.2,w5])):=by
 obtain⟨ha,T⟩:=du g hx;have U:st.1.length<=60:=by have:=h.len;omega
 have hf:bx x.1=true:=T.rp.flat;have ec:=Dg g aa st.1 U hx Ub;have M:dC (bj (fA mB (fV 0 (fV 1 (fV 2 (fV 4 aj)))))) [sT ab,sI aa,lT (st.1.map aV),some (.dt st.2.1 st.2.2,true),sI x.2,some (x.1,false)]=some (!cP (ao ab aa) st.1 x) :=
  bI (cI (aG [.tup ab,.int aa,.lst (st.1.map aV),.int x.2] (by simp) ec))
 have hw:fA aM (fV 5 aj) [sT ab,sI aa,lT (st.1.map aV),some (.dt st.2.1 st.2.2,true),sI x.2,some (x.1,false)]=sS (kindOf x.1):=aG [x.1] rfl (iW T);refine⟨some (x.1,false),?_⟩;cases hc:cP (ao ab aa) st.1 x with
 |false=>
  rw[hc]at M;have es:eX (ao ab aa) st x=st:=by unfold eX;rw[hc];rfl
  rw[es];exact .inr (fF x.1 (by simp[ha]) hf (QN (jP M rfl)))
 |true=>
  rw[hc]at M;left;refine fF x.1 (by simp[ha]) hf (cz (kj M rfl) ?_);by_cases hn:kindOf x.1 = "named"
  ·have es:eX (ao ab aa) st x=(st.1++[⟨az 1 x.1,az 2 x.1,aF x.1,none,x.2⟩],st.2):=by unfold eX;rw[hc,if_pos rfl,if_pos hn]
   rw[es];refine jP (bS (bb:=false) hw (sv hn)) ?_;have O:au [x.1,.str "office"]=sS (az 1 x.1)/\au [x.1,.str "person"]=sS (az 2 x.1):=by
    obtain⟨a,k,aE,e,d⟩:=T;rw[e]at hn ⊢;replace hn:k = "named":=hn;cases d with
    |named d o p=>exact⟨b9 (i:=1) dh rfl,b9 (i:=2) dh rfl⟩
    |root=>exact cS hn
    |chosen=>exact cS hn
    |heir=>exact cS hn
    |three _ hk=>rcases hk with rfl|rfl|rfl<;>exact cS hn
    |other _ hk=>rcases hk with rfl|rfl|rfl|rfl|rfl<;>exact cS hn
   have Gr:aS [x.1]=sI (aF x.1):=by rw[qZ T];unfold sk;rw[Ub];rfl
   have e2:f2 be (ai 2) (fA aX (af (fA gB (fV 5 (af (fA aS (fV 5 aj)) (fV 4 aj)))) aj)) [sT ab,sI aa,lT (st.1.map aV),some (.dt st.2.1 st.2.2,true),sI x.2,some (x.1,false)]=lT (st.1.map aV++[aV ⟨az 1 x.1,az 2 x.1,aF x.1,none,x.2⟩]):=by
    refine fW (x:=.lst (st.1.map aV)) (y:=.lst [aV ⟨az 1 x.1,az 2 x.1,aF x.1,none,x.2⟩]) (b1:=false) (b2:=true) rfl ?_ (if_pos (cZ (by rw[vI,length_singleton];omega)));exact aG [aV ⟨az 1 x.1,az 2 x.1,aF x.1,none,x.2⟩] (aD (aG [x.1,.int (aF x.1),.int x.2] (bR rfl (bR (aG [x.1] rfl Gr) rfl)) (Kc O.1 O.2 _ _)) rfl) (gk _ (by simp))
   have:=wo (i:=2) e2 (by have hq:=jt (st.1++[(⟨az 1 x.1,az 2 x.1,aF x.1,none,x.2⟩:Cl)]);rwa [uW]at hq);rw[uW];exact this
  ·refine kj (bS (bb:=false) hw (MO hn)) ?_;by_cases G:kindOf x.1 = "chosen"
   ·have es:eX (ao ab aa) st x=(ci st.1 [az 2 x.1] (az 1 x.1) (gL 4 x.1)++[⟨az 2 x.1,az 3 x.1,gL 4 x.1,none,x.2⟩],st.2):=by unfold eX;rw[hc,if_pos rfl,if_neg hn,if_pos G]
    rw[es];refine jP (bS (bb:=false) hw (sv G)) (wo (i:=2) (aG [.lst (st.1.map aV),x.1,.int x.2] rfl ?_) (jt _));obtain⟨a,k,aE,e,d⟩:=T;rw[e]at G ⊢;replace G:k = "chosen":=G;cases d with
    |chosen d b o p s=>exact Dh st.1 U x.2
    |root=>exact cS G
    |named=>exact cS G
    |heir=>exact cS G
    |three _ hk=>rcases hk with rfl|rfl|rfl<;>exact cS G
    |other _ hk=>rcases hk with rfl|rfl|rfl|rfl|rfl<;>exact cS G
   ·refine kj (bS (bb:=false) hw (MO G)) ?_;by_cases hh:kindOf x.1 = "heir"
    ·have es:eX (ao ab aa) st x=(st.1,dG st.2.1 [.inr (az 2 x.1),.inr (az 1 x.1)],dH st.2.1 st.2.2 [.inr (az 2 x.1),.inr (az 1 x.1)] (.str (az 3 x.1))):=by unfold eX;rw[hc,if_pos rfl,if_neg hn,if_neg G,if_pos hh]
     rw[es];have O:au [x.1,.str "office"]=sS (az 2 x.1)/\au [x.1,.str "by"]=sS (az 1 x.1)/\au [x.1,.str "person"]=sS (az 3 x.1):=by
      obtain⟨a,k,aE,e,d⟩:=T;rw[e]at hh ⊢;replace hh:k = "heir":=hh;cases d with
      |heir d b o p=>exact⟨b9 (i:=2) dh rfl,b9 (i:=1) dh rfl,b9 (i:=3) dh rfl⟩
      |root=>exact cS hh
      |named=>exact cS hh
      |chosen=>exact cS hh
      |three _ hk=>rcases hk with rfl|rfl|rfl<;>exact cS hh
      |other _ hk=>rcases hk with rfl|rfl|rfl|rfl|rfl<;>exact cS hh
     exact jP (bS (bb:=false) hw (sv hh)) (Iz (ks:=st.2.1) (vs:=st.2.2) (kd:=[.str (az 2 x.1),.str (az 1 x.1)]) (b:=false) rfl (aG [x.1,.str "person"] rfl O.2.2) (aD (aG [x.1,.str "office"] rfl O.1) (aD (aG [x.1,.str "by"] rfl O.2.1) rfl)) rfl rfl (by have:=h.hk;omega) (by simp))
    ·refine kj (bS (bb:=false) hw (MO hh)) ?_;have es:eX (ao ab aa) st x=(ci st.1 (st.1.map Cl.o) (az 1 x.1) (aF x.1)++rq (ao ab aa) st.1 st.2.1 st.2.2 (az 1 x.1) (aF x.1) x.2,st.2):=by unfold eX;rw[hc,if_pos rfl,if_neg hn,if_neg G,if_neg hh]
     rw[es];have hd:kindOf x.1 = "death":=by
      unfold cP at hc;by_cases hd:kindOf x.1 = "death"
      ·exact hd
      ·rw[if_neg hd,if_neg (by simp[wB,hn,G,hh])]at hc;cases hc
     refine wo (i:=2) (aG [.tup ab,.int aa,.lst (st.1.map aV),.dt st.2.1 st.2.2,.int x.2] (by simp) ?_) (jt _);obtain⟨a,k,aE,e,d⟩:=T;have hk:k = "death":=by rw[e]at hd;exact hd
     subst hk;obtain⟨dd,p,rfl⟩:=d.deed.three (by decide +kernel);have:=F6 g aa st.1 U st.2.1 st.2.2 h.hs hx e;rw[this,e];rfl
theorem BK (K:KL):∀(l G:KL)(st:MN)(dd:LS),zg K G dd st->((G++l).map (·.2)).Nodup->∃M,zg K (G++l) M (l.foldl (eX K) st)
 |[],G,st,dd,h,_=>⟨dd,by rw[uQ];exact h⟩
 |x::l,G,st,dd,h,hn=>by
  have hx:x.2∉G.map (·.2):=λhm=>by
   rw[uW,nodup_append]at hn;exact hn.2.2 _ hm x.2 (by simp) rfl
  obtain⟨M,h'⟩:=h.step hx;have e:G++x::l=(G++[x])++l:=by simp
  rw[e]at hn ⊢;exact BK K l _ _ _ h' hn
def BL (K l:KL)(h:(l.map (·.2)).Nodup):∃dd,zg K l dd (mN K l):=by
 have:=BK K l [] ([],[],[]) [] ⟨uN _,by simp,by simp,by simp,by simp,uN _⟩ h;exact this
def kX (h:(K.map (·.2)).Nodup):((cB K).map (·.2)).Nodup:=((b7 _ _).map _).nodup_iff.mpr (List.Nodup.sublist (List.Sublist.map _ filter_sublist) h)
def nJ {ab:LD}(g:gE ab)(aa:Int)(T:(cB (ao ab aa)).length<=60):kq [.tup ab,.int aa]=lT ((bw (ao ab aa)).map aV)/\(bw (ao ab aa)).length<=60:=by
 have eL:dR [.tup ab,.int aa]=lT ((cB (ao ab aa)).map λx=>.int x.2):=o3 g aa;generalize U:ao ab aa=K at T eL ⊢;have RZ:∀x∈cB K,x∈K/\bi x.1=false:=λx hx=>by
  obtain⟨h1,h2⟩:=vN ((b7 _ _).mem_iff.mp hx);exact⟨h1,by simpa using h2⟩
 have Qa:((cB K).map (·.2)).Nodup:=kX (by rw[←U];exact eF ab aa);obtain⟨ρ',e,v4,v5,rfl⟩:=eW (tg:=cC 4) (g:=kR) (λj ρ=>∃v4 v5:OB,ρ=[sT ab,sI aa,lT ((mN K ((cB K).take j)).1.map aV),some (.dt (mN K ((cB K).take j)).2.1 (mN K ((cB K).take j)).2.2,true),v4,v5]) ((cB K).map λx=>.int x.2)
  [sT ab,sI aa,lT [],some (.dt [] [],true),none,none] ⟨none,none,rfl⟩ (by
   rintro j d ρ hd ⟨v4,v5,rfl⟩;rw[vA]at hd;obtain⟨x,hx,rfl⟩:=oY hd;have WC:j<(cB K).length:=(vV hx).1;have et:(cB K).take (j+1)=(cB K).take j++[x]:=by rw[take_add_one,hx];rfl
   have ef:mN K ((cB K).take (j+1))=eX K (mN K ((cB K).take j)) x:=by rw[et];unfold mN;rw[foldl_append];rfl
   obtain⟨Qb,WD⟩:=RZ x (vL hx);obtain⟨dd,h⟩:=BL K ((cB K).take j) (List.Nodup.sublist (List.Sublist.map _ (take_sublist _ _)) Qa);rw[←U]at h;have G:=IA g aa h (by rw[U,length_take];omega) (x:=x) (by rw[U];exact Qb) WD v5;rw[U]at G;obtain⟨w5,G⟩:=G;exact⟨_,_,rfl,G,sI x.2,w5,by rw[ef]⟩)
 have Gq:(cB K).take ((cB K).map λx=>D.int x.2).length=cB K:=by rw[vI,take_length]
 rw[Gq]at e;obtain⟨dd,M⟩:=BL K (cB K) Qa;generalize Qc:(mN K (cB K))=st at e M;have Kn:st.1.length<=60:=by have:=M.len;omega
 have Uc:bw K=eI (λc=>cQ (kC c)) st.1:=by unfold bw;rw[Qc]
 have hm:∀ρ:DL.Env,ji (sg gA ρ) (st.1.map aV)=some (st.1.map λc=>.tup [.str c.o,.int c.s,.int c.n]):=λρ=>ig st.1 λc _=>by
  show(gA [aV c]).map _=_;rw[wz];rfl
 have hk:dF (st.1.map λc=>D.tup [.str c.o,.int c.s,.int c.n])=some (st.1.map kC):=gW st.1 λc _=>rfl;have O:(st.1.map kC).length<64/\eJ (st.1.map kC)=true/\fM (st.1.map kC)=true/\((st.1.map kC).map cQ).Nodup:=by
  refine⟨by rw[vI];omega,BJ _,?_,?_⟩
  ·unfold fM;rw[or_eq_true];right;simp[all_eq_true,kC]
  ·rw[uP];have h1:st.1.Pairwise λa b=>(a.o,a.n)≠(b.o,b.n):=pairwise_map.mp M.nod;have h2:st.1.Pairwise λa b=>cQ (kC a)≠cQ (kC b):=by
    refine List.Pairwise.imp_of_mem ?_ h1;intro a b ha hb D8 e;exact D8 (F7 ha hb e)
   exact pairwise_map.mpr h2
 have hz:(st.1.map kC).zip (st.1.map aV)=st.1.map λc=>(kC c,aV c):=by rw[zip_map']
 have key:((bw K).map λc=>(kC c,aV c))=eI (λp:List At×D=>cQ p.1) (st.1.map λc=>(kC c,aV c)):=by
  rw[Uc];refine jY _ (λx hx y hy e=>?_) ((b7 _ _).map _) ?_
  ·obtain⟨a,ha,rfl⟩:=vO hx;obtain⟨b,hb,rfl⟩:=vO hy;rw[ue (λc:Cl=>(c.o,c.n)) M.nod ha hb (F7 ha hb e)]
  ·exact pairwise_map.mpr (hU _ _)
 refine⟨av rfl (cj (ds:=[]) (by simp[sizeLine]) rfl (cz (ρ':=[sT ab,sI aa,lT [],some (.dt [] [],true),none,none]) rfl (cz (iF (ds:=(cB K).map λx=>.int x.2) ?_ e) (ax ?_)))),by rw[Uc,(b7 _ _).length_eq];exact Kn⟩
 ·show(fA dR (fV 0 (fV 1 aj)) _).bind _=_;rw[aG [.tup ab,.int aa] rfl eL];rfl
 ·unfold qc;show((some (D.lst (st.1.map aV),false)).bind _)=_;simp only[vJ];rw[hm];simp only[vJ];rw[hk];simp only[vJ];rw[if_pos O];unfold jj;rw[hz,←key,uP];rfl
end Lw
namespace Lw
open PySem PySem.Spec DL L2
def yI (ns:LI)(k:Nat)(x:Int):∃c:Int,(ay (aK 2 (f2 bC (f2 ft (f2 be (f2 be (f2 bC (ai 2) (fI 2147483629)) (f2 ft (fI 6151) (ai 1))) (fI 1)) (fI 48271)) (fI 2147483647)))
  (aQ (f2 bC (f2 ft (ai 2) (f2 be (f2 be (f2 bC (ai 2) (fI 65519)) (ai 1)) (fI 2))) (fI 2147483629)))) [sL (ns.map .int),sI k,sI x]=some (.rt (.int c) false)/\0<=c:=by
 obtain⟨y,hy⟩:∃y,((x % 2147483629+6151*k+1)*48271) % 2147483647=y:=⟨_,rfl⟩;have hb:0<=y/\y<2147483647:=by rw[←hy];exact mod_lt (by decide)
 have hc : -18446744073709551616<y/\y<18446744073709551616:=by omega
 exact⟨(y*(y % 65519+k+2)) % 2147483629,fF (.int y) (by simp[hy]) rfl (ax (by simp[hc])),(mod_lt (by decide)).1⟩
def eG (ns:LI)(k:Nat):∃c:Int,bA [.lst (ns.map .int),.int k]=sI c/\0<=c:=by
 by_cases h:ns.length=0
 ·have e:ns=[]:=List.length_eq_zero_iff.mp h;subst e;obtain⟨c,h1,h2⟩:=yI [] k 5;exact⟨c,av rfl (fF (.int 5) rfl rfl (a9 (cI (by simp)) h1)),h2⟩
 ·have hm:=mod_lt (x:=(k:Int)) (m:=ns.length) (by omega);obtain⟨c,h1,h2⟩:=yI ns k (ns.getD ((k:Int) % ns.length).toNat 0);refine⟨c,av rfl (fF (.int 5) rfl rfl (cz (jP (cI (by simp;omega)) (m4 (d:=.int (ns.getD ((k:Int) % ns.length).toNat 0)) (b:=false) ?_ rfl)) h1)),h2⟩;refine bo (.lst (ns.map .int)) (.int ((k:Int) % ns.length)) rfl ?_ (wu hm.1 (by omega));refine bo (.int k) (.int ns.length) rfl (by simp) ?_;have G:¬ns=[]:=λe=>h (by rw[e];rfl);simp[bC,G]
def F8 {ρ:DL.Env}{i n:Nat}{ds:LD}{G M:FE}{d:D}{b b':Bool}(e:ρ[i]? = some (lT ds))(O:M ρ=some (d,b))(ek:G ρ=some (.int n,b'))(hn:n<ds.length)(hf:bx d=true):zM i G M ρ=some (.nx (ρ.set i (lT (ds.set n d)))):=by
 have hx:Cs ds.length (n:Int)=some n:=by
  unfold Cs;rw[if_pos (by omega)];simp[hn]
 simp only[zM,e,O,ek,vJ,hx,if_pos hf]
theorem BM:∀(zs:LS),(∀z∈zs,z.length=1)->(zs.map (·.length)).sum=zs.length
 |[],_=>rfl
 |z::zs,h=>by
  rw[uY,List.sum_cons,BM zs λy hy=>h y (mZ _ hy),h z mX,vE];omega
def BN (x:Int):0<=x % 26/\x % 26<26:=mod_lt (by decide)
noncomputable def rC:PySem.Str:="abcdefghijklmnopqrstuvwxyz"
def Di:rC.cps.size=26:=by decide +kernel
def Dj (x:Int):Str:=⟨#[rC.cps.toList.getD (x % 26).toNat 0]⟩
def F9 (x:Int):bB (.str rC) (.int (x % 26))=sS (Dj x):=DL.z8 (BN x).1 (by rw[Di];have:=BN x;omega) (by decide +kernel)
theorem yJ:∀(zs:LS)(y:Str),(Str.join ("" : Str) (y::zs)).cps.toList=(y::zs).flatMap λz=>z.cps.toList
 |[],y=>by rw[uO,flatMap_nil,uQ];rfl
 |z::r,y=>by
  have G:∀a b:Str,(a++b).cps.toList=a.cps.toList++b.cps.toList:=λa b=>by show(a.cps++b.cps).toList=_;simp
  show(y++("" : Str)++Str.join ("" : Str) (z::r)).cps.toList=_;rw[G,G,yJ r z,show("" : Str).cps.toList=[]from rfl,uQ];rfl
def FC (h:zs≠[]):(Txt.join ("" : Str) zs).cps.toList=zs.flatMap λz=>z.cps.toList:=by
 cases zs with
 |nil=>exact absurd rfl h
 |cons y zs=>
  unfold Txt.join;rw[StrLaws.glued_eq_join];exact yJ zs y
theorem mO (x y:Nat):∀(bs:LS)(a:Nat),a<bs.length->(∀z∈bs,∃c,z.cps.toList=[c])->((bs.set a ⟨#[x]⟩).flatMap λz=>z.cps.toList)=((bs.set a ⟨#[y]⟩).flatMap λz=>z.cps.toList)->x=y
 |b::bs,0,_,_,h=>by
  rw[List.set_cons_zero,List.set_cons_zero,uO,uO]at h;exact(List.cons.inj h).1
 |b::bs,a+1,hl,hb,h=>by
  rw[List.set_cons_succ,List.set_cons_succ,uO,uO]at h;exact mO x y bs a (by simpa using hl) (λz hz=>hb z (mZ _ hz)) (List.append_cancel_left h)
def FD:∀i j:Fin 26,rC.cps.toList.getD i.val 0=rC.cps.toList.getD j.val 0->i=j:=by decide +kernel
def mP (bs:LS)(a:Nat)(c:Int)(i:Nat):Str:=Txt.join ("" : Str) (bs.set a (Dj (c / 64+3*(i:Int))))
def O8 {p q:Int}(h1:0<=p/\p<26)(h2:0<=q/\q<26)(h:p.toNat=q.toNat):p=q:=by omega
def Kd {bs:LS}{a:Nat}{c:Int}{i j:Nat}(ha:a<bs.length)(hb:∀z∈bs,∃c,z.cps.toList=[c])(G:(3*(i:Int) - 3*(j:Int)) % 26≠0):mP bs a c i≠mP bs a c j:=by
 intro e;have e:=congrArg (λs:Str=>s.cps.toList) e;unfold mP at e;have M:∀x,bs.set a x≠[]:=λx z=>by have:=congrArg List.length z;rw[length_set,length_nil]at this;omega
 simp only[FC (M _)]at e;have:=mO _ _ bs a ha hb e;have h1:=BN (c / 64+3*(i:Int));have h2:=BN (c / 64+3*(j:Int));have:=FD ⟨((c / 64+3*(i:Int)) % 26).toNat,by omega⟩ ⟨((c / 64+3*(j:Int)) % 26).toNat,by omega⟩ this;have:=congrArg Fin.val this;simp only at this;have h3:=O8 h1 h2 this;have h4:=Int.emod_eq_emod_iff_emod_sub_eq_zero.mp h3;rw[Int.add_sub_add_left]at h4;exact G h4
def nE (c:Int)(bs:LS)(a:Nat)(zs:LS)(G M:OB):DL.Env:=[sI c,sS rC,lT (bs.map .str),sI a,lT (zs.map .str),G,M]
def Aq (c:Int)(bs:LS)(a:Nat)(zs:LS)(G:OB)(h1:∀z∈bs,z.length=1)(M:bs.length<=8)(ha:a<bs.length)(i:Nat)(hz:zs.length<=7):lN (nE c bs a zs (sI i) G)=some (.nx (nE c bs a (zs++[mP bs a c i]) (sI i) (lT ((bs.set a (Dj (c / 64+3*i))).map .str)))):=by
 have h2:∀z∈bs.set a (Dj (c / 64+3*i)),z.length=1:=λz hz=>by
  rcases List.mem_or_eq_of_mem_set hz with h|h
  ·exact h1 z h
  ·rw[h];rfl
 refine(cj (ds:=bs.map .str) (r:=some (.nx (nE c bs a (zs++[mP bs a c i]) (sI i) (lT ((bs.set a (Dj (c / 64+3*i))).map .str))))) (by simp[nE]) (dY _) (cz (F8 (n:=a) (ds:=bs.map .str) (d:=.str (Dj (c / 64+3*i))) (b:=false) (b':=false) rfl ?_ rfl (by simpa using ha) rfl) ((iR (ds:=zs.map .str) (d:=.str (mP bs a c i)) (b:=false) rfl ?_ rfl (bD (by simp;omega))).trans ?_)))
 ·exact bo (.str rC) (.int ((c / 64+3*i) % 26)) rfl (by simp[nE]) (F9 _)
 ·refine bo (.str "") (.lst ((bs.set a (Dj (c / 64+3*i))).map .str)) rfl (by simp[nE]) ?_;show(iD ((bs.set a (Dj (c / 64+3*i))).map .str)).bind _=_;rw[rh];have:=BM _ h2;have h0:("" : Str).length=0:=rfl;show(if _ then _ else _)=_;rw[if_pos (by rw[this,h0,length_set];omega)];rfl
 ·simp[nE]
def Ar (c:Int)(hc:0<=c){n:Nat}(hn:1+c % 8=n):bK (fu (f2 be (fI 1) (f2 bC (ai 0) (fI 8)))) 1 [1,0] (cC 0) fH (f2 bB (ai 1) (f2 bC (f2 cD (ai 2) (f2 be (fI 3) (f2 ft (fI 4) (ai 0)))) (fI 26))) [sI c,sS rC,none,none,none,none,none]=lT (((List.range n).map λ(k:Nat)=>Dj (c / (3+4*k))).map .str):=by
 have G:=mod_lt (x:=c) (m:=8) (by decide);have hb:=km (fi:=fu (f2 be (fI 1) (f2 bC (ai 0) (fI 8)))) (nT:=1) (cap:=[1,0]) (tg:=cC 0) (fe:=f2 bB (ai 1) (f2 bC (f2 cD (ai 2) (f2 be (fI 3) (f2 ft (fI 4) (ai 0)))) (fI 26)))
  (ρ:=[sI c,sS rC,none,none,none,none,none]) (List.range n) (λ(k:Nat)=>.int k) (λ(k:Nat)=>.str (Dj (c / (3+4*k))))
  (by rw[gU (j:=n) (b:=false) (by simp;omega) (by omega),CZ];simp) (by simp;omega) λk hk=>by
   have hk:=mem_range.mp hk;refine⟨_,rfl,false,bo (.str rC) (.int (c / (3+4*k) % 26)) (by simp[dN]) ?_ (F9 _)⟩;have h1:(0:Int)<3+4*k:=by omega
   have h2:(3:Int)+4*k<1073741824:=by omega
   simp[dN,h1,h2]
 rw[hb,uP];rfl
def Dk (c:Int)(bs:LS)(a:Nat)(G:Str)(M:LS)(hz:5<(G::M).length)(O T:OB)(g:FS)(U:g=ay (dI (bj (f2 dJ (f2 bC (f2 cD (ai 0) (fI 1000)) (fI 8)) (fI 1))) (zM 4 (fI 5) (cH 4 0)) bg) (je 4)):g (nE c bs a (G::M) O T)=some (.rt (.lst ((if c / 1000 % 8=1 then (G::M).set 5 G else G::M).map .str)) true):=by
 subst U;by_cases h:c / 1000 % 8=1
 ·rw[if_pos h];refine cz (jP (cI (by simp[h,nE])) (F8 (n:=5) (ds:=(G::M).map .str) (d:=.str G) (b:=false) (b':=false) rfl ?_ rfl (by simpa using hz) rfl)) (oV ?_)
  ·exact bo (.lst ((G::M).map .str)) (.int 0) rfl rfl (by simp[BA])
  ·simp[nE]
 ·rw[if_neg h];exact a9 (cI (by simp[h,nE])) (oV rfl)
def FF (c:Int)(hc:0<=c):∃zs:LS,nB [.int c]=lT (zs.map .str)/\zs.length=7/\∀x y,zs[5]? = some x->zs[6]? = some y->x≠y:=by
 have h8:=mod_lt (x:=c) (m:=8) (by decide);obtain⟨n,hn⟩:∃n:Nat,1+c % 8=n:=⟨(1+c % 8).toNat,by omega⟩;have WE:1<=n:=by omega
 have XX:n<=8:=by omega
 have O:=Ar c hc hn;have G:∀z∈(List.range n).map λ(k:Nat)=>Dj (c / (3+4*k)),z.length=1/\∃c,z.cps.toList=[c]:=λz hz=>by obtain⟨k,_,rfl⟩:=vO hz;exact⟨rfl,_,rfl⟩
 have T:((List.range n).map λ(k:Nat)=>Dj (c / (3+4*k))).length=n:=by simp
 generalize ((List.range n).map λ(k:Nat)=>Dj (c / (3+4*k)))=bs at O G T;have XY:=mod_lt (x:=c / 8) (m:=n) (by omega);obtain⟨a,ha⟩:∃a:Nat,c / 8 % n=a:=⟨(c / 8 % n).toNat,by omega⟩;obtain⟨ρ',e,v5,U,rfl⟩:=mw (tg:=cC 5) (g:=lN) 7 (λi ρ=>∃(v5 U:OB),ρ=nE c bs a ((List.range i).map (mP bs a c)) v5 U) (nE c bs a [] none none) ⟨none,none,rfl⟩ (by
  rintro i ρ hi ⟨v5,U,rfl⟩;exact⟨_,_,rfl,.inl (Aq c bs a _ U (λz hz=>(G z hz).1) (by omega) (by omega) i (by simp;omega)),_,_,by rw[List.range_succ,uW];rfl⟩)
 have f:=Dk c bs a (mP bs a c 0) [mP bs a c 1,mP bs a c 2,mP bs a c 3,mP bs a c 4,mP bs a c 5,mP bs a c 6] (by simp) v5 U _ rfl;refine⟨_,av rfl (fF (.str rC) rfl rfl (cj (ds:=bs.map .str) O (dY _) (fF (.int a) ?_ rfl (cj (ds:=[]) (by simp[sizeLine]) (by simp) (cz (m5 (gU (j:=7) (b:=false) rfl (by decide)) e) f))))),by split<;>rfl,?_⟩
 ·refine bo (.int (c / 8)) (.int n) (by simp) (by simp[T]) ?_;have h1:(0:Int)<n:=by omega
  show(if decide ((0:Int)<n)=true then _ else _)=_;rw[if_pos (sv h1)];show some (D.int (c / 8 % n),false)=_;rw[ha]
 ·have MY:a<bs.length:=by omega
  have Ud:∀z∈bs,∃c,z.cps.toList=[c]:=λz hz=>(G z hz).2;intro x y hx hy;split at hx
  ·rename_i M;rw[if_pos M]at hy;cases hx;cases hy
   exact Kd MY Ud (by decide)
  ·rename_i M;rw[if_neg M]at hy;cases hx;cases hy
   exact Kd MY Ud (by decide)
def iz (x:Int×OI):D:=.tup [.int x.1,uD x.2]
def jv (x:Int×OI):bx (iz x)=true:=by simp[iz,BE]
def ug (x:Int×OI):aO 5 (iz x)=true:=by obtain⟨s,u⟩:=x;cases u<;>simp[iz,uD]
def As (a d m:Int):∃x,gD [.int a,.int d,.int m]=some (iz x,false):=by
 have O:=mod_lt (x:=a) (m:=8) (by decide);let G:List (Int×OI):=[(0,none),(d,none),(d,some (d+3*m)),(0,some (d+2*m)),(0,some (9*m))];let L2:List (Int×OI):=[(d+m,some (d+4*m)),(d / 2,some (d+6*m)),(0,none)];have M:∀L:List (Int×OI),bH (L.map iz)=true:=λL=>ce λd hd=>by obtain⟨x,_,rfl⟩:=vO hd;exact jv x
 have hi:(a % 8).toNat<((G++L2).map iz).length:=by show _<8;omega
 refine⟨(G++L2).getD (a % 8).toNat (0,none),av rfl (cj (ds:=G.map iz) (by simp[G,iz,uD,sizeLine]) (M _) (cj (ds:=(G++L2).map iz) ?_ (M _) (ax (bo (.lst ((G++L2).map iz)) (.int (a % 8)) rfl (by simp) ((wt O.1 hi).trans ?_)))))⟩
 ·refine fW (x:=.lst (G.map iz)) (y:=.lst (L2.map iz)) (b1:=false) (b2:=true) rfl (by simp[L2,iz,uD,sizeLine]) ?_;simp[G,L2,sizeLine]
 ·rw[vF,vA,vF];rw[vI]at hi;rw[vU hi];rfl
def kH {zs:LS}{i:Int}(h1 : -(zs.length:Int)<=i)(h2:i<zs.length):∃z∈zs,bB (.lst (zs.map .str)) (.int i)=sS z:=by
 obtain⟨j,hj,hl⟩:∃j,Cs (zs.map D.str).length i=some j/\j<zs.length:=by
  unfold Cs;rw[vI];by_cases h0:0<=i
  ·rw[if_pos h0,if_pos h2];exact⟨_,rfl,by omega⟩
  ·rw[if_neg h0,if_pos (by omega)];exact⟨_,rfl,by omega⟩
 refine⟨zs[j],getElem_mem hl,?_⟩;have:nR (zs.map D.str) i=some (.str zs[j]):=by unfold nR;rw[hj,vJ,vA,vU hl];rfl
 simp[this]
noncomputable def MR:LN:=[7,255,3,15]
noncomputable def MS:LN:=[1,2,3,4,5,7,128,255]
inductive Dd:Str->List D->Prop
 |root (o r:Str) (m:Nat) (hm:m∈MR) (f:Int):Dd ("root" : Str) [.str o,.int m,.int f,.str r]
 |named (d:Int) (o p:Str):Dd ("named" : Str) [.int d,.str o,.str p]
 |chosen (d:Int) (b o p:Str) (s:Int):Dd ("chosen" : Str) [.int d,.str b,.str o,.str p,.int s]
 |heir (d:Int) (b o p:Str):Dd ("heir" : Str) [.int d,.str b,.str o,.str p]
 |three (k:Str) (hk:k = "death" ∨ k = "lost" ∨ k = "found") (d:Int) (p:Str):Dd k [.int d,.str p]
 |leave (d:Int) (b p:Str) (m:Nat) (hm:m∈MS) (x:Int×Option Int) (f:Int):Dd ("leave" : Str) [.int d,.str b,.str p,.int m,iz x,.int f]
 |paper (k:Str) (hk:k = "paper" ∨ k = "like") (d:Int) (b:Str) (m:Nat) (hm:m∈MS) (x:Int×Option Int) (r:List D) (hf:bH r=true) (hp:r.all (aO 5)=true):Dd k (.int d::.str b::.int m::iz x::r)
 |copy (k:Str) (hk:k = "copy" ∨ k = "call") (d:Int) (b:Str) (n:Nat):Dd k [.int d,.str b,.int n]
def Dd.cd (h:Dd k r):Cd k r:=by
 cases h with
 |root o r m hm f=>exact .root _ _ _ _
 |named d o p=>exact .named _ _ _
 |chosen d b o p s=>exact .chosen _ _ _ _ _
 |heir d b o p=>exact .heir _ _ _ _
 |three k hk d p=>exact .three _ hk _ _
 |leave d b p m hm x f=>exact .other _ (.inl rfl) _ _ _ (by simp[jv]) (by simp only[all_cons,all_nil,ug,aO,Bool.and_true])
 |paper k hk d b m hm x r hf hp=>exact .other _ (hk.elim (λh=>.inr (.inl h)) λh=>.inr (.inr (.inl h))) _ _ _ (by simp[hf,jv]) (by simp only[all_cons,hp,ug,aO,Bool.and_true])
 |copy k hk d b n=>exact .other _ (hk.elim (λh=>.inr (.inr (.inr (.inl h)))) λh=>.inr (.inr (.inr (.inr h)))) _ _ _ rfl (by simp)
def Dd.had3 (h:Dd k r)(hk:k = "leave" ∨ k = "named"):∃p,r[2]? = some (.str p):=by
 have hk:k∈[("leave" : Str),"named"]:=by simpa using hk
 cases h with
 |named d o p=>exact⟨p,rfl⟩
 |leave d b p=>exact⟨p,rfl⟩
 |root=>exact cS hk
 |chosen=>exact cS hk
 |heir=>exact cS hk
 |three k G=>rcases G with rfl|rfl|rfl<;>exact cS hk
 |paper k G=>rcases G with rfl|rfl<;>exact cS hk
 |copy k G=>rcases G with rfl|rfl<;>exact cS hk
def Dd.had4 (h:Dd k r)(hk:k = "chosen"):∃p,r[3]? = some (.str p):=by
 cases h with
 |chosen d b o p=>exact⟨p,rfl⟩
 |root=>exact cS hk
 |named=>exact cS hk
 |leave=>exact cS hk
 |heir=>exact cS hk
 |three k G=>rcases G with rfl|rfl|rfl<;>exact cS hk
 |paper k G=>rcases G with rfl|rfl<;>exact cS hk
 |copy k G=>rcases G with rfl|rfl<;>exact cS hk
def Dd.flat (h:Dd k r):bH r=true:=h.cd.deed.flat
noncomputable def fO:LS:=[("leave" : Str),"leave","leave","leave","leave","paper","paper","like","copy","copy","call","call","named","death","lost","found","chosen","heir"]
def Dl (h:w∈fO):w = "leave" ∨ w = "paper" ∨ w = "like" ∨ w = "copy" ∨ w = "call" ∨ w = "named" ∨ w = "death" ∨ w = "lost" ∨ w = "found" ∨ w = "chosen" ∨ w = "heir":=by
 simp only[fO,mem_cons,not_mem_nil,or_false]at h;rcases h with rfl|rfl|rfl|rfl|rfl|rfl|rfl|rfl|rfl|rfl|rfl|rfl|rfl|rfl|rfl|rfl|rfl|rfl<;>simp
def FH (G c o day m:Int)(zs gM:LS)(hz:zs.length=7)(hh:gM≠[]):
  ∃(w O p:Str)(T:Nat),w∈fO/\∀(h:FS)(r:Option Res),h [sI G,sI c,sI o,sL (zs.map .str),sI day,sL (gM.map .str),sI m,lT (fO.map .str),sS w,sS O,sS p,sI T,none,none,none]=r ->
   (ay (aK 7 (f2 be (f2 be (CP (fA aX (af (fS "leave") aj)) (fI 5)) (CP (fA aX (af (fS "paper") aj)) (fI 2))) (fA aX (af (fS "like") (af (fS "copy") (af (fS "copy") (af (fS "call") (af (fS "call") aj)))))))) (ay (aK 7 (f2 be (ai 7) (fA aX (af (fS "named") (af (fS "death") (af (fS "lost") (af (fS "found") (af (fS "chosen") (af (fS "heir") aj))))))))) (ay (aK 8 (f2 bB (ai 7) (f2 bC (ai 1) (fI 18)))) (ay (aK 9 (f2 bB (ai 5) (f2 l8 (f1 vc (fI 1)) (f2 bC (f2 cD (ai 1) (fI 18)) (fA Hv (af (fI 3) (af (fA df (fV 5 aj)) aj))))))) (ay (dI (bj (f2 dJ (f2 bC (f2 cD (ai 1) (fI 54)) (fI 6)) (fI 1))) (aK 9 (f2 bB (ai 3) (f2 bC (f2 cD (ai 1) (fI 324)) (fI 5)))) bg) (ay (aK 10 (f2 bB (ai 3) (f2 bC (f2 cD (ai 1) (fI 1620)) (fI 5)))) (ay (aK 11 (fA Hu (af (fI 0) (af (f2 l8 (f2 l8 (ai 0) (fI 1)) (f2 bC (ai 2) (fI 4))) aj)))) (ay (dI (bj (f2 dJ (f2 bC (f2 cD (ai 2) (fI 4)) (fI 8)) (fI 1))) (aK 11 (f2 bC (f2 cD (ai 2) (fI 32)) (fI 60))) bg) h)))))))) [sI G,sI c,sI o,sL (zs.map .str),sI day,sL (gM.map .str),sI m,none,none,none,none,none,none,none,none]=r:=by
 have XZ:=mod_lt (x:=c) (m:=18) (by decide);obtain⟨w,hw,ew⟩:=kH (zs:=fO) (i:=c % 18) (by simp[fO];omega) (by simp[fO];omega);obtain⟨n,hn,M,Ya⟩:∃n:Int,(if(gM.length:Int)<3 then (gM.length:Int)else 3)=n/\0<n/\n<=gM.length:=by
  have:0<gM.length:=List.length_pos_iff.mpr hh;split
  ·exact⟨_,rfl,by omega,by omega⟩
  ·exact⟨_,rfl,by omega,by omega⟩
 have Yb:=mod_lt (x:=c / 18) (m:=n) M;obtain⟨U,_,WG⟩:=kH (zs:=gM) (i:=-1 - c / 18 % n) (by omega) (by omega);have h5:=mod_lt (x:=c / 324) (m:=5) (by decide);obtain⟨b1,_,WH⟩:=kH (zs:=zs) (i:=c / 324 % 5) (by omega) (by omega);have Yc:=mod_lt (x:=c / 1620) (m:=5) (by decide);obtain⟨p,_,ep⟩:=kH (zs:=zs) (i:=c / 1620 % 5) (by omega) (by omega);have Yd:=mod_lt (x:=o / 32) (m:=60) (by decide);obtain⟨f0,WI⟩:∃f0:Nat,(if G - 1 - o % 4 > 0 then G - 1 - o % 4 else 0)=(f0:Int):=by
  split
  ·exact⟨(G - 1 - o % 4).toNat,by omega⟩
  ·exact⟨0,rfl⟩
 obtain⟨f1,WJ⟩:∃f1:Nat,o / 32 % 60=(f1:Int):=⟨(o / 32 % 60).toNat,by omega⟩;refine⟨w,if c / 54 % 6=1 then b1 else U,p,if o / 4 % 8=1 then f1 else f0,hw,λh r hr=>?_⟩;refine cj (ds:=(fO.take 12).map .str) ?_ (dY _) (cj (ds:=fO.map .str) ?_ (dY _) (fF (.str w) (bo (.lst (fO.map .str)) (.int (c % 18)) rfl (by simp) ew) rfl (fF (.str U) ?_ rfl (cz (ρ':=[sI G,sI c,sI o,sL (zs.map .str),sI day,sL (gM.map .str),sI m,lT (fO.map .str),sS w,sS (if c / 54 % 6=1 then b1 else U),none,none,none,none,none]) ?_ (fF (.str p) ?_ rfl (fF (.int f0) ?_ rfl (cz ?_ hr)))))))
 ·have e1:∀(s:Str)(k:Nat),k<=100->CP (fA aX (af (fS s) aj)) (fC (.int k)) [sI G,sI c,sI o,sL (zs.map .str),sI day,sL (gM.map .str),sI m,none,none,none,none,none,none,none,none]=lT (List.replicate k (.str s)):=λs k hk=>by
   have h1:(k:Int)<=1000:=by omega
   have h2:k<=1000:=by omega
   have h3:∀n:Nat,(List.replicate n [D.str s]).flatten=List.replicate n (.str s):=λn=>by
    induction n with
    |zero=>rfl
    |succ n ih=>rw[replicate_succ,flatten_cons,ih,replicate_succ];rfl
   simp[sizeLine,h1,h2,h3]
  have z:∀n:Nat,n<=100->n<=sizeLine:=λn h=>cZ (by omega);refine fW (x:=.lst ((fO.take 7).map .str)) (y:=.lst (((fO.drop 7).take 5).map .str)) (b1:=true) (b2:=true) (fW (x:=.lst ((fO.take 5).map .str)) (y:=.lst (List.replicate 2 (.str "paper"))) (b1:=true) (b2:=true) (e1 _ 5 (by decide)) (e1 _ 2 (by decide)) ?_) (aG (((fO.drop 7).take 5).map .str) rfl (gk _ (by simp[fO]))) ?_
  ·refine(if_pos (c:=7<=sizeLine) (e:=none) (z 7 (by decide))).trans ?_;rfl
  ·refine(if_pos (c:=12<=sizeLine) (e:=none) (z 12 (by decide))).trans ?_;rfl
 ·refine fW (x:=.lst ((fO.take 12).map .str)) (y:=.lst ((fO.drop 12).map .str)) (b1:=false) (b2:=true) rfl (aG ((fO.drop 12).map .str) rfl (gk _ (by decide))) ?_;refine(if_pos (c:=18<=sizeLine) (e:=none) (cZ (by decide))).trans ?_;rfl
 ·refine bo (.lst (gM.map .str)) (.int (-1 - c / 18 % n)) rfl ?_ WG;refine bo (.int (-1)) (.int (c / 18 % n)) rfl ?_ rfl;refine bo (.int (c / 18)) (.int n) (by simp) (by simp[hn]) ?_;show(if decide ((0:Int)<n)=true then _ else _)=_;rw[if_pos (sv M)]
 ·by_cases hx:c / 54 % 6=1
  ·rw[if_pos hx];exact jP (cI (by simp[hx])) (m4 (d:=.str b1) (b:=false) (bo (.lst (zs.map .str)) (.int (c / 324 % 5)) rfl (by simp) WH) rfl)
  ·rw[if_neg hx];exact kj (cI (by simp[hx])) rfl
 ·exact bo (.lst (zs.map .str)) (.int (c / 1620 % 5)) rfl (by simp) ep
 ·show some (D.int (if G - 1 - o % 4 > 0 then G - 1 - o % 4 else 0),false)=_;rw[WI]
 ·by_cases hx:o / 4 % 8=1
  ·simp only[if_pos hx];exact jP (cI (by simp[hx])) (m4 (d:=.int f1) (b:=false) (by simp[WJ]) rfl)
  ·simp only[if_neg hx];exact kj (cI (by simp[hx])) rfl
def mQ {ns:LI}{i:Int}(h1:0<=i)(h2:i<ns.length):∃m∈ns,bB (.lst (ns.map .int)) (.int i)=sI m:=by
 have h:i.toNat<ns.length:=by omega
 refine⟨ns.getD i.toNat 0,?_,wu h1 h⟩;rw[vF,vU h];exact getElem_mem h
def lR (h : -1000<=a/\a<=1000):Lx (.int a) (.int b)=sI (a*b):=by
 have : -18446744073709551616<a/\a<18446744073709551616:=by omega
 simp[this]
def de (e:ρ[i]? = some (sS a))(h:decide (a=b)=false:=by decide +kernel):bj (f2 dJ (ai i) (fS b)) ρ=some false:=bS (a:=a) (bb:=false) (by simp[e]) h
def Au (e:ρ[i]? = some (sS a))(h:decide (a=b)=true:=by decide +kernel):bj (f2 dJ (ai i) (fS b)) ρ=some true:=bS (a:=a) (bb:=false) (by simp[e]) h
def yK (x:Bool)(e:ρ[i]? = some (sS a))(h:decide (a∈[b,c])=x:=by decide +kernel):bj (f2 zl (ai i) (fA aW (af (fS b) (af (fS c) aj)))) ρ=some x:=cI (bo (.str a) (.tup ([b,c].map .str)) (by simp[e]) (by simp[sizeLine]) (by rw[js,h]))
def Ke {l:LI}{x:Int}(h:x∈l)(hl:l.all (λy=>decide (0<=y/\y.toNat∈MS))=true):∃m:Nat,x=m/\m∈MS:=by
 have:=OH (uR hl x h);exact⟨x.toNat,by omega,this.2⟩
def IB (many c o day m:Int)(zs gM:LS)(hz:zs.length=7)(hh:gM≠[]):
  ∃k r,qR [.int many,.int c,.int o,.lst (zs.map .str),.int day,.lst (gM.map .str),.int m]=sT (.str k::r)/\Dd k r/\k ≠ "root":=by
 obtain⟨w,G,p,O,hw,pre⟩:=FH many c o day m zs gM hz hh;obtain⟨s,es⟩:=As (o / 32) day m;have h8:=mod_lt (x:=c / 8100) (m:=8) (by decide);obtain⟨Ye,Sa,WK⟩:=mQ (ns:=[3,1,7,2,255,5,1,3]) (i:=c / 8100 % 8) h8.1 h8.2;obtain⟨Yf,Sb,Ue⟩:=mQ (ns:=[1,1,3,2,4,5,128,7]) (i:=c / 8100 % 8) h8.1 h8.2;obtain⟨m1,rfl,Sc⟩:=Ke Sa (by decide);obtain⟨U,rfl,Qd⟩:=Ke Sb (by decide);have h4:=mod_lt (x:=o / 2560) (m:=4) (by decide);obtain⟨dv,Sd,ed⟩:=mQ (ns:=[5,5,5,10]) (i:=o / 2560 % 4) h4.1 h4.2;have Se:0<dv:=by simp only[mem_cons,not_mem_nil,or_false]at Sd;omega
 have h2:=mod_lt (x:=o / 256) (m:=2) (by decide);obtain⟨T,WL,Qe,Uf⟩:∃T,bB (.lst [.non,.str p]) (.int (o / 256 % 2))=some (T,false)/\bx T=true/\aO 5 T=true:=by
  rcases (show o / 256 % 2=0∨o / 256 % 2=1 by omega)with h|h
  ·rw[h];exact⟨.non,by simp[BA],rfl,by simp⟩
  ·rw[h];exact⟨.str p,by simp[BB],rfl,by simp⟩
 have PF:=mod_lt (x:=o) (m:=2) (by decide);have Yg:=mod_lt (x:=o) (m:=2) (by decide);obtain⟨off,_,eo⟩:=kH (zs:=zs) (i:=5+o % 2) (by omega) (by omega);obtain⟨Pq,_,WM⟩:=kH (zs:=zs) (i:=5+o % 2) (by omega) (by omega);have Yh:=mod_lt (x:=o / 32) (m:=3) (by decide);have Sf:∀(ρ:DL.Env),ρ[2]? = some (sI o)->ρ[4]? = some (sI day)->ρ[6]? = some (sI m)->fA gD (af (f2 cD (ai 2) (fI 32)) (fV 4 (fV 6 aj))) ρ=some (iz s,false):=λρ q1 q2 q3=>
  aG [.int (o / 32),.int day,.int m] (by simp[q1,q2,q3]) es
 have Pr:∀(ρ:DL.Env),ρ[2]? = some (sI o)->ρ[3]? = some (sL (zs.map .str))->f2 bB (ai 3) (f2 be (fI 5) (f2 bC (ai 2) (fI 2))) ρ=sS off:=λρ q1 q2=>bo (.lst (zs.map .str)) (.int (5+o % 2)) (by simp[q2]) (by simp[q1]) eo;have Sg:∀(ns:LI)(M:Nat)(ρ:DL.Env)(fl:FE),fl ρ=lT (ns.map .int)->ρ[1]? = some (sI c)->bB (.lst (ns.map .int)) (.int (c / 8100 % 8))=sI M->f2 bB fl (f2 bC (f2 cD (ai 1) (fI 8100)) (fI 8)) ρ=sI M:=λns M ρ fl e1 q e=>fW (x:=.lst (ns.map .int)) (y:=.int (c / 8100 % 8)) (b1:=true) (b2:=false) e1 (by simp[q]) e;have Ug:∀(ρ:DL.Env),ρ[2]? = some (sI o)->ρ[10]? = some (sS p)->f2 bB (fA aX (af (fC .non) (fV 10 aj))) (f2 bC (f2 cD (ai 2) (fI 256)) (fI 2)) ρ=some (T,false):=λρ q1 q2=>fW (x:=.lst [.non,.str p]) (y:=.int (o / 256 % 2)) (b1:=true) (b2:=false) (by simp[sizeLine,q2]) (by simp[q1]) WL;rcases Dl hw with rfl|rfl|rfl|rfl|rfl|rfl|rfl|rfl|rfl|rfl|rfl
 ·refine⟨_,[.int day,.str G,.str p,.int m1,iz s,.int (o / 256 % dv)],av rfl (pre _ _ ?_),.leave _ _ _ _ Sc _ _,by decide +kernel⟩;refine bq (Au rfl) (fF (.int m1) (Sg [3,1,7,2,255,5,1,3] _ _ _ (by simp[sizeLine]) rfl WK) rfl (fF (.int (o / 256 % dv)) ?_ rfl (ax (aG [.str "leave",.int day,.str G,.str p,.int m1,iz s,.int (o / 256 % dv)] (bR rfl (bR rfl (bR rfl (bR rfl (bR rfl (aD (Sf _ rfl rfl rfl) (bR rfl rfl))))))) (c7 _ (by simp))))));refine bo (.int (o / 256)) (.int dv) (by simp) (fW (x:=.lst (([5,5,5,10]:LI).map .int)) (y:=.int (o / 2560 % 4)) (b1:=true) (b2:=false) (by simp[sizeLine]) (by simp) ed) ?_;show(if decide ((0:Int)<dv)=true then _ else _)=_;rw[if_pos (sv Se)]
 ·refine⟨_,[.int day,.str G,.int U,iz s,T,.tup [.str p]],av rfl (pre _ _ ?_),.paper _ (.inl rfl) _ _ _ Qd _ _ (by simp[Qe]) (by simp[Uf]),by decide +kernel⟩;exact a9 (de rfl) (bq (bV (p:=true) (q:=false) (Au rfl) λ_=>de rfl) (fF (.int U) (Sg [1,1,3,2,4,5,128,7] _ _ _ (by simp[sizeLine]) rfl Ue) rfl (fF (.tup [.str "paper",.int day,.str G,.int U,iz s,T]) (aG [.str "paper",.int day,.str G,.int U,iz s,T] (bR rfl (bR rfl (bR rfl (bR rfl (aD (Sf _ rfl rfl rfl) (aD (Ug _ rfl rfl) rfl)))))) (c7 _ (by simp))) (by simp[jv,Qe]) (a9 (de rfl) (ax (bo (.tup [.str "paper",.int day,.str G,.int U,iz s,T]) (.tup [.tup [.str p]]) rfl (by simp[sizeLine]) (by simp[sizeLine])))))))
 ·refine⟨_,[.int day,.str G,.int U,iz s,T,.int O,.tup [.tup [.int 0,.str p]]],av rfl (pre _ _ ?_),.paper _ (.inr rfl) _ _ _ Qd _ _ (by simp[Qe]) (by simp[Uf]),by decide +kernel⟩;exact a9 (de rfl) (bq (bV (p:=false) (q:=true) (de rfl) λ_=>Au rfl) (fF (.int U) (Sg [1,1,3,2,4,5,128,7] _ _ _ (by simp[sizeLine]) rfl Ue) rfl (fF (.tup [.str "like",.int day,.str G,.int U,iz s,T]) (aG [.str "like",.int day,.str G,.int U,iz s,T] (bR rfl (bR rfl (bR rfl (bR rfl (aD (Sf _ rfl rfl rfl) (aD (Ug _ rfl rfl) rfl)))))) (c7 _ (by simp))) (by simp[jv,Qe]) (bq (Au rfl) (ax (bo (.tup [.str "like",.int day,.str G,.int U,iz s,T]) (.tup [.int O,.tup [.tup [.int 0,.str p]]]) rfl (by simp[sizeLine]) (by simp[sizeLine])))))))
 ·exact⟨_,[.int day,.str G,.int O],av rfl (pre _ _ (a9 (de rfl) (a9 (bV (p:=false) (q:=false) (de rfl) λ_=>de rfl) (bq (yK true rfl) (ax (aG [.str "copy",.int day,.str G,.int O] rfl (c7 _ (by simp)))))))),.copy _ (.inl rfl) _ _ _,by decide +kernel⟩
 ·exact⟨_,[.int day,.str G,.int O],av rfl (pre _ _ (a9 (de rfl) (a9 (bV (p:=false) (q:=false) (de rfl) λ_=>de rfl) (bq (yK true rfl) (ax (aG [.str "call",.int day,.str G,.int O] rfl (c7 _ (by simp)))))))),.copy _ (.inr rfl) _ _ _,by decide +kernel⟩
 ·exact⟨_,[.int day,.str off,.str p],av rfl (pre _ _ (a9 (de rfl) (a9 (bV (p:=false) (q:=false) (de rfl) λ_=>de rfl) (a9 (yK false rfl) (bq (Au rfl) (ax (aG [.str "named",.int day,.str off,.str p] (bR rfl (bR rfl (aD (Pr _ rfl rfl) (bR rfl rfl)))) (c7 _ (by simp))))))))),.named _ _ _,by decide +kernel⟩
 ·exact⟨_,[.int day,.str G],av rfl (pre _ _ (a9 (de rfl) (a9 (bV (p:=false) (q:=false) (de rfl) λ_=>de rfl) (a9 (yK false rfl) (a9 (de rfl) (a9 (de rfl) (a9 (de rfl) (ax (aG [.str "death",.int day,.str G] rfl (c7 _ (by simp))))))))))),.three _ (.inl rfl) _ _,by decide +kernel⟩
 ·exact⟨_,[.int day,.str G],av rfl (pre _ _ (a9 (de rfl) (a9 (bV (p:=false) (q:=false) (de rfl) λ_=>de rfl) (a9 (yK false rfl) (a9 (de rfl) (a9 (de rfl) (a9 (de rfl) (ax (aG [.str "lost",.int day,.str G] rfl (c7 _ (by simp))))))))))),.three _ (.inr (.inl rfl)) _ _,by decide +kernel⟩
 ·exact⟨_,[.int day,.str G],av rfl (pre _ _ (a9 (de rfl) (a9 (bV (p:=false) (q:=false) (de rfl) λ_=>de rfl) (a9 (yK false rfl) (a9 (de rfl) (a9 (de rfl) (a9 (de rfl) (ax (aG [.str "found",.int day,.str G] rfl (c7 _ (by simp))))))))))),.three _ (.inr (.inr rfl)) _ _,by decide +kernel⟩
 ·refine⟨_,[.int day,.str G,.str Pq,.str p,.int (day+o / 32 % 3*m)],av rfl (pre _ _ (a9 (de rfl) (a9 (bV (p:=false) (q:=false) (de rfl) λ_=>de rfl) (a9 (yK false rfl) (a9 (de rfl) (bq (Au rfl) (ax (aG [.str "chosen",.int day,.str G,.str Pq,.str p,.int (day+o / 32 % 3*m)] ?_ (c7 _ (by simp)))))))))),.chosen _ _ _ _ _,by decide +kernel⟩;exact bR rfl (bR rfl (bR rfl (aD (bo (.lst (zs.map .str)) (.int (5+o % 2)) rfl (by simp) WM) (bR rfl (bR (bo (.int day) (.int (o / 32 % 3*m)) rfl (bo (.int (o / 32 % 3)) (.int m) (by simp) rfl (lR (by omega))) rfl) rfl)))))
 ·exact⟨_,[.int day,.str G,.str off,.str p],av rfl (pre _ _ (a9 (de rfl) (a9 (bV (p:=false) (q:=false) (de rfl) λ_=>de rfl) (a9 (yK false rfl) (a9 (de rfl) (a9 (de rfl) (bq (Au rfl) (ax (aG [.str "heir",.int day,.str G,.str off,.str p] (bR rfl (bR rfl (bR rfl (aD (Pr _ rfl rfl) (bR rfl rfl))))) (c7 _ (by simp))))))))))),.heir _ _ _ _,by decide +kernel⟩
def bZ (r:D):Prop:=∃h k aE,r=row h k aE/\Dd k aE
def bZ.c (g:bZ r):wy r:=by obtain⟨h,k,aE,e,d⟩:=g;exact⟨h,k,aE,e,d.cd⟩
def bZ.flat (g:bZ r):bx r=true:=g.c.rp.flat
def O9 (c1 m M:Int)(xs zs gM:LS)(ns:LI)(ab:LD)(hz:zs.length=7)(i:Nat)(hi:i<2)(hr:ab.length<=100)(hh:gM.length<=100)(v8 v9 wL rT:OB):
  ∃r1 r2 p w8 w9 WN WO,(bZ r1/\bi r1=true/\zs[5+i]? = some (az 0 r1))/\(bZ r2/\bi r2=false)/\jp [sL (ns.map .int),sL (zs.map .str),sI m,sI M,sI c1,lT ab,lT (gM.map .str),sI i,v8,v9,wL,rT,none,none,none]
   = some (.nx [sL (ns.map .int),sL (zs.map .str),sI m,sI M,sI c1,lT (ab++[r1]++[r2]),lT ((gM++[p]).map .str),sI i,w8,w9,WN,WO,none,none,none]):=by
 have h3:=mod_lt (x:=c1 / (64+9*i)) (m:=3) (by decide);obtain⟨rl,_,WP⟩:=kH (zs:=[("open" : Str),"first","last"]) (i:=c1 / (64+9*i) % 3) (by simp;omega) (by simp;omega);have h4:=mod_lt (x:=c1 / (2+8*i)) (m:=4) (by decide);obtain⟨WQ,O,U⟩:=mQ (ns:=[7,255,3,15]) (i:=c1 / (2+8*i) % 4) h4.1 h4.2;obtain⟨mt,Sh,WR⟩:∃mt:Nat,WQ=mt/\mt∈MR:=by
  simp only[mem_cons,not_mem_nil,or_false]at O;rcases O with rfl|rfl|rfl|rfl<;>first|exact⟨7,rfl,by decide⟩|exact⟨255,rfl,by decide⟩|exact⟨3,rfl,by decide⟩|exact⟨15,rfl,by decide⟩
 have Uh:=U;rw[Sh]at Uh;have Ui:=mod_lt (x:=c1 / (31+i)) (m:=3) (by decide);obtain⟨G,Sd,ed⟩:=mQ (ns:=[5,5,10]) (i:=c1 / (31+i) % 3) Ui.1 Ui.2;have Se:0<G:=by simp only[mem_cons,not_mem_nil,or_false]at Sd;omega
 obtain⟨of,WS,Uj⟩:∃of,zs[5+i]? = some of/\bB (.lst (zs.map .str)) (.int (5+i))=sS of:=by
  have hl:5+i<zs.length:=by omega
  refine⟨zs[5+i],vU hl,?_⟩;have Jq:((5:Int)+i).toNat<(zs.map D.str).length:=by rw[vI];omega
  rw[DL.wt (by omega) Jq,show((5:Int)+i).toNat=5+i by omega,vF,vA,vU hl];rfl
 obtain⟨pn,_,Uk⟩:=kH (zs:=zs) (i:=i) (by omega) (by omega);have WT:(0:Int)<64+9*i/\(64:Int)+9*i<1073741824:=by omega
 have b2:(0:Int)<2+8*i/\(2:Int)+8*i<1073741824:=by omega
 have Si:(0:Int)<512+i/\(512:Int)+i<1073741824:=by omega
 have T:(0:Int)<1024+5*i/\(1024:Int)+5*i<1073741824:=by omega
 have WU:(0:Int)<31+i/\(31:Int)+i<1073741824:=by omega
 let t:Int:=if c1 / (512+i) % 8=1 then 1 else 0;have ht:0<=t/\t<=1:=by show 0<=(if _ then (1:Int)else 0)/\(if _ then (1:Int)else 0)<=1;split<;>omega
 refine⟨row (t*4*m) ("root" : Str) [.str of,.int mt,.int (c1 / (1024+5*i) % G),.str rl],row 0 ("named" : Str) [.int 0,.str of,.str pn],pn,sS rl,sI mt,sI (t*4*m),sI (c1 / (1024+5*i) % G),⟨⟨_,_,_,rfl,.root _ _ _ WR _⟩,sv rfl,WS⟩,⟨⟨_,_,_,rfl,.named _ _ _⟩,show decide (("named" : Str) = "root")=false by decide +kernel⟩,?_⟩;refine fF (.str rl) ?_ rfl (fF (.int mt) ?_ rfl (fF (.int (t*4*m)) ?_ rfl (fF (.int (c1 / (1024+5*i) % G)) ?_ rfl (Br (ds:=ab) (d:=row (t*4*m) ("root" : Str) [.str of,.int mt,.int (c1 / (1024+5*i) % G),.str rl]) (b:=false) rfl ?_ rfl (bD (by omega)) (Br (ds:=ab++[row (t*4*m) ("root" : Str) [.str of,.int mt,.int (c1 / (1024+5*i) % G),.str rl]]) (d:=row 0 ("named" : Str) [.int 0,.str of,.str pn]) (b:=false) rfl ?_ rfl (bD (by simp;omega)) ((iR (ds:=gM.map .str) (d:=.str pn) (b:=false) rfl ?_ rfl (bD (by simp;omega))).trans ?_))))))
 ·exact fW (x:=.lst (([("open" : Str),"first","last"]:LS).map .str)) (y:=.int (c1 / (64+9*i) % 3)) (b1:=true) (b2:=false) (by simp[sizeLine]) (by simp[WT]) WP
 ·exact fW (x:=.lst (([7,255,3,15]:LI).map .int)) (y:=.int (c1 / (2+8*i) % 4)) (b1:=true) (b2:=false) (by simp[sizeLine]) (by simp[b2]) Uh
 ·refine bo (.int (t*4)) (.int m) (bo (.int t) (.int 4) ?_ rfl (by simp)) rfl (lR (by omega));refine aG [.bl (decide (c1 / (512+i) % 8=1))] (bR (bo (.int (c1 / (512+i) % 8)) (.int 1) (by simp[Si]) rfl (by simp)) rfl) ?_;simp[t]
 ·refine bo (.int (c1 / (1024+5*i))) (.int G) (by simp[T]) (fW (x:=.lst (([5,5,10]:LI).map .int)) (y:=.int (c1 / (31+i) % 3)) (b1:=true) (b2:=false) (by simp[sizeLine]) (by simp[WU]) ed) ?_;show(if decide ((0:Int)<G)=true then _ else _)=_;rw[if_pos (sv Se)]
 ·refine aG [.int (t*4*m),.tup [.str "root",.str of,.int mt,.int (c1 / (1024+5*i) % G),.str rl]] (bR rfl (bR (aG [.str "root",.str of,.int mt,.int (c1 / (1024+5*i) % G),.str rl] (bR rfl (aD (bo (.lst (zs.map .str)) (.int (5+i)) rfl (by simp) Uj) (bR rfl (bR rfl (bR rfl rfl))))) (c7 _ (by simp))) rfl)) (c7 _ (by simp))
 ·refine aG [.int 0,.tup [.str "named",.int 0,.str of,.str pn]] (bR rfl (bR (aG [.str "named",.int 0,.str of,.str pn] (bR rfl (bR rfl (aD (bo (.lst (zs.map .str)) (.int (5+i)) rfl (by simp) Uj) (aD (bo (.lst (zs.map .str)) (.int i) rfl rfl Uk) rfl)))) (c7 _ (by simp))) rfl)) (c7 _ (by simp))
 ·exact bo (.lst (zs.map .str)) (.int i) rfl rfl Uk
 ·simp
noncomputable def kI (ab:LD):LS:=(ab.filter bi).map (az 0)
def nL (ab:LD)(r:D):kI (ab++[r])=kI ab++if bi r=true then [az 0 r]else []:=by
 unfold kI;rw[filter_append,uW,filter_cons];split
 ·rename_i h;rfl
 ·rename_i h;rfl
def OA (c1 m M:Int)(zs gM:LS)(ns:LI)(ab:LD)(hz:zs.length=7)(i:Nat)(hi:i<100)(hr:ab.length<=200)(hh:gM≠[])(Yi:gM.length<=200)(v8 v9 wL rT zh Gs Gu:OB):
  ∃r1 G WV WW WX,(bZ r1/\bi r1=false)/\G≠[]/\G.length<=gM.length+1/\jq [sL (ns.map .int),sL (zs.map .str),sI m,sI M,sI c1,lT ab,lT (gM.map .str),sI i,v8,v9,wL,rT,zh,Gs,Gu]
   = some (.nx [sL (ns.map .int),sL (zs.map .str),sI m,sI M,sI c1,lT (ab++[r1]),lT (G.map .str),sI i,v8,v9,wL,rT,WV,WW,WX]):=by
 obtain⟨O,WY,Yj⟩:=eG ns (5+i);obtain⟨cb,WZ,Yk⟩:=eG ns (30+i);obtain⟨cc,Xa,Yl⟩:=eG ns (60+i);have h3:=mod_lt (x:=O / 7) (m:=3) (by decide);obtain⟨day,Gr⟩:∃day:Int,((i:Int) / 2+O / 7 % 3)*m=day:=⟨_,rfl⟩;obtain⟨k,r,ed,hD,Sj⟩:=IB ab.length cb cc day m zs gM hz hh;have Xb:=λh=>hD.had3 h;have Xc:=λh=>hD.had4 h;have h6:=mod_lt (x:=O / 21) (m:=6) (by decide);obtain⟨T,Xd,Xe⟩:=mQ (ns:=[0,0,0,0,1,4]) (i:=O / 21 % 6) h6.1 h6.2;have RE : -1000<=T/\T<=1000:=by simp only[mem_cons,not_mem_nil,or_false]at Xd;omega
 have OJ:bx (.tup (.str k::r))=true:=by simp[hD.flat]
 have e4:∀(ρ:DL.Env),ρ[14]? = some (sT (.str k::r))->cH 14 0 ρ=sS k:=λρ h=>bo (.tup (.str k::r)) (.int 0) (by simp[h]) rfl (by simp[BA]);have e1:∀(b:Bool),decide (k = "leave" ∨ k = "named")=b->bj (f2 zl (cH 14 0) (fA aW (af (fS "leave") (af (fS "named") aj)))) [sL (ns.map .int),sL (zs.map .str),sI m,sI M,sI c1,lT ab,lT (gM.map .str),sI i,v8,v9,wL,rT,sI O,sI day,sT (.str k::r)]=some b:=λb hb=>cI (bo (.str k) (.tup (([("leave" : Str),"named"]:LS).map .str)) (e4 _ rfl) (by simp[sizeLine]) (by rw[js,←hb];simp));have at_:∀(j:Nat)(p:Str),r[j]? = some (.str p)->∀ρ:DL.Env,ρ[14]? = some (sT (.str k::r))->f2 bB (ai 14) (fC (.int ((j+1:Nat):Int))) ρ=sS p:=λj p hp ρ hρ=>by
  have hl:j<r.length:=(vV hp).1;refine bo (.tup (.str k::r)) (.int ((j+1:Nat):Int)) (by simp[hρ]) rfl ?_;rw[DL.p5 (by omega) (by simp;omega),show((j+1:Nat):Int).toNat=j+1 by omega,vF];show some ((r[j]?).getD .non,false)=_;rw[hp];rfl
 obtain⟨G,Sk,U,Xf⟩:∃G:LS,G≠[]/\G.length<=gM.length+1/\∀(h:FS)(rr:Option Res),h [sL (ns.map .int),sL (zs.map .str),sI m,sI M,sI c1,lT ab,lT (G.map .str),sI i,v8,v9,wL,rT,sI O,sI day,sT (.str k::r)]=rr->ay (dI (bj (f2 zl (cH 14 0) (fA aW (af (fS "leave") (af (fS "named") aj))))) (i6 6 (cH 14 3)) bg) (ay (dI (bj (f2 dJ (cH 14 0) (fS "chosen"))) (i6 6 (cH 14 4)) bg) h) [sL (ns.map .int),sL (zs.map .str),sI m,sI M,sI c1,lT ab,lT (gM.map .str),sI i,v8,v9,wL,rT,sI O,sI day,sT (.str k::r)]=rr:=by
  by_cases hx:k = "leave" ∨ k = "named"
  ·obtain⟨p,hp⟩:=Xb hx;have Pg:k ≠ "chosen":=by rcases hx with rfl|rfl<;>decide +kernel
   refine⟨gM++[p],by simp,by simp,λh rr hr=>cz (jP (e1 true (sv hx)) (iR (ds:=gM.map .str) (d:=.str p) (b:=false) rfl (at_ 2 p hp _ rfl) rfl (bD (by simp;omega)))) (a9 (bS (a:=k) (bb:=false) (e4 _ rfl) (MO Pg)) ?_)⟩;rw[uW]at hr;exact hr
  ·by_cases hy:k = "chosen"
   ·obtain⟨p,hp⟩:=Xc hy;refine⟨gM++[p],by simp,by simp,λh rr hr=>a9 (e1 false (MO hx)) (cz (jP (bS (a:=k) (bb:=false) (e4 _ rfl) (sv hy)) (iR (ds:=gM.map .str) (d:=.str p) (b:=false) rfl (at_ 3 p hp _ rfl) rfl (bD (by simp;omega)))) ?_)⟩;rw[uW]at hr;exact hr
   ·exact⟨gM,hh,by omega,λh rr hr=>a9 (e1 false (MO hx)) (a9 (bS (a:=k) (bb:=false) (e4 _ rfl) (MO hy)) hr)⟩
 refine⟨row (day+T*m) k r,G,sI O,sI day,sT (.str k::r),⟨⟨_,_,_,rfl,hD⟩,MO Sj⟩,Sk,U,?_⟩;refine fF (.int O) (aG [.lst (ns.map .int),.int ((5+i:Nat):Int)] (by simp) WY) rfl (fF (.int day) ?_ rfl (fF (.tup (.str k::r)) ?_ OJ (Xf _ _ ((iR (ds:=ab) (d:=row (day+T*m) k r) (b:=false) rfl ?_ (by simp[row,hD.flat]) (bD (by omega))).trans ?_))))
 ·refine bo (.int ((i:Int) / 2+O / 7 % 3)) (.int m) (by simp) rfl ?_;rw[←Gr];exact lR (by omega)
 ·refine aG [.int ab.length,.int cb,.int cc,.lst (zs.map .str),.int day,.lst (gM.map .str),.int m] (bR (by simp) (aD (aG [.lst (ns.map .int),.int ((30+i:Nat):Int)] (by simp) WZ) (aD (aG [.lst (ns.map .int),.int ((60+i:Nat):Int)] (by simp) Xa) (bR rfl (bR rfl (bR rfl (bR rfl rfl))))))) ed
 ·refine aG [.int (day+T*m),.tup (.str k::r)] (bR (bo (.int day) (.int (T*m)) rfl (bo (.int T) (.int m) (fW (x:=.lst (([0,0,0,0,1,4]:LI).map .int)) (y:=.int (O / 21 % 6)) (b1:=true) (b2:=false) (by simp[sizeLine]) (by simp) Xe) rfl (lR RE)) rfl) (bR rfl rfl)) (c7 _ (by simp))
 ·simp
inductive I1 (ns:List Int)(zs:List Str)(m c1:Int):Nat->DL.Env->Prop
 |mk (ab:List D) (gM:List Str) (v7 v8 v9 wL rT:OB) (g:∀r∈ab,bZ r) (l:ab.length=2*i) (k:gM.length=i) (o:kI ab=(zs.drop 5).take i):I1 ns zs m c1 i [sL (ns.map .int),sL (zs.map .str),sI m,sI 14,sI c1,lT ab,lT (gM.map .str),v7,v8,v9,wL,rT,none,none,none]
def IC (hz:zs.length=7)(hi:i<2)(h:I1 ns zs m c1 i ρ):∃G ρ',cC 7 (.int i) ρ=some G/\(jp G=some (.nx ρ')∨jp G=some (.ct ρ'))/\I1 ns zs m c1 (i+1) ρ':=by
 cases h with
 |mk ab gM v7 v8 v9 wL rT g l k o=>
  obtain⟨r1,r2,p,w8,w9,M,O,T,U,e⟩:=O9 c1 m 14 [] zs gM ns ab hz i (by omega) (by omega) (by omega) v8 v9 wL rT;refine⟨_,_,rfl,.inl e,.mk (ab++[r1]++[r2]) (gM++[p]) _ w8 w9 M O ?_ (by simp;omega) (by simp[k]) (by rw[nL,nL,if_pos T.2.1,if_neg (by rw[U.2];decide),uQ,o,take_add_one,getElem?_drop,T.2.2];rfl)⟩;intro r hr;simp only[mem_append,mem_singleton]at hr;rcases hr with (hr|rfl)|rfl
  ·exact g r hr
  ·exact T.1
  ·exact U.1
inductive I2 (ns:List Int)(zs:List Str)(m c1:Int)(n1:Nat):Nat->DL.Env->Prop
 |mk (ab:List D) (gM:List Str) (v7 u8 u9 Qf Qg zh Gs Gu:OB) (g:∀r∈ab,bZ r) (l:ab.length=2*n1+i) (k:gM≠[]) (k':gM.length<=n1+i) (o:kI ab=(zs.drop 5).take n1):I2 ns zs m c1 n1 i [sL (ns.map .int),sL (zs.map .str),sI m,sI 14,sI c1,lT ab,lT (gM.map .str),v7,u8,u9,Qf,Qg,zh,Gs,Gu]
def ID (hz:zs.length=7)(hi:i<17)(hn:n1<=2)(h:I2 ns zs m c1 n1 i ρ):∃G ρ',cC 7 (.int i) ρ=some G/\(jq G=some (.nx ρ')∨jq G=some (.ct ρ'))/\I2 ns zs m c1 n1 (i+1) ρ':=by
 cases h with
 |mk ab gM v7 u8 u9 Qf Qg zh Gs Gu g l k k' o=>
  obtain⟨r1,M,O,T,U,q1,q2,q3,e⟩:=OA c1 m 14 zs gM ns ab hz i (by omega) (by omega) k (by omega) u8 u9 Qf Qg zh Gs Gu;refine⟨_,_,rfl,.inl e,.mk (ab++[r1]) M _ _ _ _ _ O T U ?_ (by simp;omega) q2 (by omega) (by rw[nL,if_neg (by rw[q1.2];decide),uQ,o])⟩;intro r hr;simp only[mem_append,mem_singleton]at hr;rcases hr with hr|rfl
  ·exact g r hr
  ·exact q1.1
def FI (h:I2 ns zs m c1 n1 i ρ)(hz:zs.length=7)(hn:n1<=2)(G:2*n1+i<=24):∃ab,aQ (fA g7 (fV 5 aj)) ρ=some (.rt (.tup ab) false)/\(∀r∈ab,bZ r)/\ab.length<=24/\kI ab=(zs.drop 5).take (kI ab).length:=by
 cases h with
 |mk ab gM v7 u8 u9 Qf Qg zh Gs Gu g l k k' o=>
  refine⟨ab,ax (by simp),g,by omega,?_⟩;rw[o,length_take];congr 1;rw[length_drop];omega
def UH (h:I1 ns zs m c1 n1 ρ)(hn:0<n1):I2 ns zs m c1 n1 0 ρ:=by
 cases h with
 |mk ab gM v7 v8 v9 wL rT g l k o=>exact .mk ab gM v7 v8 v9 wL rT none none none g (by omega) (λe=>by rw[e]at k;simp at k;omega) (by omega) o
def IE (ns:LI)(zs:LS)(hz:zs.length=7)(m:Int):∃ab:LD,qS [.lst (ns.map .int),.lst (zs.map .str),.int m,.int 14]=sT ab/\(∀r∈ab,bZ r)/\ab.length<=24/\kI ab=(zs.drop 5).take (kI ab).length:=by
 obtain⟨c1,U,h1⟩:=eG ns 1;obtain⟨G,e2,h2⟩:=eG ns 2;have Sc:=mod_lt (x:=c1) (m:=2) (by decide);have Qd:=mod_lt (x:=G) (m:=14) (by decide);obtain⟨n1,WE⟩:∃n1:Nat,1+c1 % 2=n1:=⟨(1+c1 % 2).toNat,by omega⟩;obtain⟨n2,M⟩:∃n2:Nat,3+G % 14=n2:=⟨(3+G % 14).toNat,by omega⟩;obtain⟨ρ1,f1,T⟩:=mw (tg:=cC 7) (g:=jp) n1 (I1 ns zs m c1) _ (.mk [] [] none none none none none (by simp) rfl rfl rfl) λi ρ hi h=>IC hz (by omega) h;obtain⟨ρ2,O,i2⟩:=mw (tg:=cC 7) (g:=jq) n2 (I2 ns zs m c1 n1) _ (UH T (by omega)) λi ρ hi h=>ID hz (by omega) (by omega) h;obtain⟨ab,e,g⟩:=FI i2 hz (by omega) (by omega);refine⟨ab,av rfl (fF (.int c1) (aG [.lst (ns.map .int),.int ((1:Nat):Int)] (by simp) U) rfl (cj (ds:=[]) (by simp[sizeLine]) rfl (cj (ds:=[]) (by simp[sizeLine]) rfl (cz (m5 (gU (j:=n1) (b:=false) (by simp;omega) (by omega)) f1) (cz (m5 (gU (j:=n2) (b:=false) ?_ (by omega)) O) e))))),g⟩;cases T with
 |mk=>
  refine bo (.int 3) (.int (G % 14)) rfl (bo (.int G) (.int 14) (aG [.lst (ns.map .int),.int ((2:Nat):Int)] (by simp) e2) rfl (by simp)) ?_;rw[←M];rfl
def uh (a b:Nat):ib [.int a,.int b]=sO (decide (a &&& b=b)):=by
 have:Builtin.bitAnd (a:Int) (b:Int)=((a &&& b:Nat):Int):=by simp[Builtin.bitAnd]
 simp[ib,qI,this];omega
def iA (r:D):Nat:=(if kindOf r = "root" then gL 1 r else if kindOf r = "leave" then gL 3 r else gL 2 r).toNat
def fP (a:Int)(k:Str)(aE:LD):kindOf (row a k aE)=k:=rfl
noncomputable def eY:LS:=[("leave" : Str),"paper","like"]
def rE (g:bZ r)(h:bi r=true):∃a o rl,∃m:Nat,∃f:Int,r=row a ("root" : Str) [.str o,.int m,.int f,.str rl]/\m∈MR/\iA r=m:=by
 obtain⟨a,k,aE,rfl,d⟩:=g;have hk:k = "root":=OH h;clear h;cases d with
 |root o rl m hm f=>exact⟨a,o,rl,m,f,rfl,hm,by unfold iA;rw[fP,if_pos rfl];rfl⟩
 |named=>exact cS hk
 |chosen=>exact cS hk
 |heir=>exact cS hk
 |three k G=>rcases G with rfl|rfl|rfl<;>exact cS hk
 |leave=>exact cS hk
 |paper k G=>rcases G with rfl|rfl<;>exact cS hk
 |copy k G=>rcases G with rfl|rfl<;>exact cS hk
def BO (g:bZ r)(h:bi r=true):au [r,.str "matters"]=sI (iA r):=by
 obtain⟨a,o,rl,m,f,rfl,_,e⟩:=rE g h;rw[e];exact b9 (i:=1) dh rfl
def Mg {a:Int}{k:Str}{aE:LD}(d:Dd k aE)(h:k∈eY):iA (row a k aE)∈MS/\(∃i:Nat,oG gO (.str k) (.str "matters")=sI i/\aE[i]? = some (.int (iA (row a k aE))))/\(D.str k::aE).getD (3+if k = "leave" then 1 else 0) .non=.int (iA (row a k aE))/\(3+if k = "leave" then 1 else 0)<(D.str k::aE).length:=by
 cases d with
 |leave d b p m hm x f=>
  have e:iA (row a ("leave" : Str) [.int d,.str b,.str p,.int m,iz x,.int f])=m:=by unfold iA;rw[fP,if_neg (by decide +kernel),if_pos rfl];rfl
  rw[e];refine⟨hm,⟨3,dh,rfl⟩,?_,?_⟩
  ·rw[if_pos rfl];rfl
  ·rw[if_pos rfl];simp
 |paper k hk d b m hm x r hf hp=>
  have hl:k ≠ "leave":=by rcases hk with rfl|rfl<;>decide +kernel
  have hr:k ≠ "root":=by rcases hk with rfl|rfl<;>decide +kernel
  have e:iA (row a k (.int d::.str b::.int m::iz x::r))=m:=by unfold iA;rw[fP,if_neg hr,if_neg hl];rfl
  rw[e];refine⟨hm,⟨2,by rcases hk with rfl|rfl<;>exact dh,rfl⟩,?_,?_⟩
  ·rw[if_neg hl];rfl
  ·rw[if_neg hl];simp
 |root=>exact cS h
 |named=>exact cS h
 |chosen=>exact cS h
 |heir=>exact cS h
 |three k G=>rcases G with rfl|rfl|rfl<;>exact cS h
 |copy k G=>rcases G with rfl|rfl<;>exact cS h
def wD (g:bZ r)(h:kindOf r∈eY):au [r,.str "matters"]=sI (iA r):=by
 obtain⟨a,k,aE,rfl,d⟩:=g;obtain⟨_,⟨i,h1,h2⟩,_⟩:=Mg (a:=a) d h;exact b9 h1 h2
noncomputable def bM:LS:=[("leave" : Str),"paper","like","copy"]
def jI (h:k∈bM∨k = "call"):dX k=true:=by
 rw[qY];refine sv ?_;rcases h with h|rfl
 ·have:∀k∈bM,k∈yA:=by decide +kernel
  exact this k h
 ·decide +kernel
def IF {k:Str}{aE:LD}(d:Dd k aE)(h:dX k=true):∃(dd:Int)(b:Str)(r:LD),aE=.int dd::.str b::r:=d.cd.deed.slg h
def BP (g:bZ r)(h:dX (kindOf r)=true):au [r,.str "by"]=sS (cV r):=by
 obtain⟨a,k,aE,rfl,d⟩:=g;obtain⟨dd,b,q,rfl⟩:=IF d h;exact b9 (i:=1) (Fy h) rfl
noncomputable def bN (K:KL):LD:=(K.filter λx=>bi x.1).map (·.1)
theorem yL:∀(l:List (eC×D))(a:LK×LD),(a.1++l.map (·.1)).Nodup->l.foldl qj a=(a.1++l.map (·.1),a.2++l.map (·.2))
 |[],a,_=>by simp
 |p::l,a,h=>by
  have hn:p.1∉a.1:=by
   rw[uY,nodup_append]at h;exact λz=>h.2.2 _ z _ mX rfl
  have e:qj a p=(a.1++[p.1],a.2++[p.2]):=by unfold qj dG dH;rw[if_neg hn,if_neg hn]
  rw[foldl_cons,e,yL l _ (by rw[append_assoc];exact h)];simp
section
variable {K:KL}(hn:((bN K).map (az 0)).Nodup)
include hn
theorem rF:ca (mM K)=((bN K).map λv=>(.inr (az 0 v):eC),bN K):=by
 have e:mM K=(bN K).map λv=>((.inr (az 0 v):eC),v):=by unfold mM bN;rw[uP];rfl
 have G:((bN K).map λv=>(.inr (az 0 v):eC)).Nodup:=by
  refine pairwise_map.mpr ((pairwise_map.mp hn).imp λh z=>h (Sum.inr.inj z))
 rw[e];unfold ca;rw[yL _ _ (by rw[uP];exact G),uP,uP];simp only[nil_append];congr 1;exact map_id _
end
noncomputable def IG (j:Nat):D->Int×OI
 |.tup [_,.tup (_::aE)]=>match aE[j]? with
  |some (.tup [.int s,.int u])=>(s,some u)
  |some (.tup [.int s,.non])=>(s,none)
  |_=>(0,none)
 |_=>(0,none)
def wE {h:Int}{k:Str}{aE:LD}{j:Nat}{x:Int×OI}(e:aE[j]? = some (iz x)):IG j (row h k aE)=x:=by
 unfold IG row;simp only[e];obtain⟨s,u⟩:=x;cases u<;>rfl
def gF (r:D):Int×OI:=if kindOf r = "leave" then IG 4 r else IG 3 r
def iq (r:D):Int:=if kindOf r = "root" then gL 2 r else gL 5 r
def mR (r:D):Bool:=decide (kindOf r = "leave")
def o6 {r:D}(g:bZ r)(h:kindOf r = "leave"):∃a d b p,∃m:Nat,∃x f,r=row a ("leave" : Str) [.int d,.str b,.str p,.int m,iz x,.int f]/\m∈MS/\iA r=m/\gF r=x/\iq r=f:=by
 obtain⟨a,k,aE,rfl,d⟩:=g;have hk:k = "leave":=h;clear h;cases d with
 |leave d b p m hm x f=>exact⟨a,d,b,p,m,x,f,rfl,hm,by unfold iA;rw[fP,if_neg (by decide +kernel),if_pos rfl];rfl,by unfold gF;rw[fP,if_pos rfl];exact wE rfl,by unfold iq;rw[fP,if_neg (by decide +kernel)];rfl⟩
 |root=>exact cS hk
 |named=>exact cS hk
 |chosen=>exact cS hk
 |heir=>exact cS hk
 |three k G=>rcases G with rfl|rfl|rfl<;>exact cS hk
 |paper k G=>rcases G with rfl|rfl<;>exact cS hk
 |copy k G=>rcases G with rfl|rfl<;>exact cS hk
def IH {a:Int}{k:Str}{aE:LD}(d:Dd k aE)(h:k∈eY):(∃i:Nat,oG gO (.str k) (.str "stretch")=sI i/\aE[i]? = some (iz (gF (row a k aE))))/\(D.str k::aE).getD (4+if k = "leave" then 1 else 0) .non=iz (gF (row a k aE))/\(4+if k = "leave" then 1 else 0)<(D.str k::aE).length:=by
 cases d with
 |leave d b p m hm x f=>
  have e:gF (row a ("leave" : Str) [.int d,.str b,.str p,.int m,iz x,.int f])=x:=by unfold gF;rw[fP,if_pos rfl];exact wE rfl
  rw[e,if_pos rfl];exact⟨⟨4,dh,rfl⟩,rfl,by simp⟩
 |paper k hk d b m hm x r hf hp=>
  have hl:k ≠ "leave":=by rcases hk with rfl|rfl<;>decide +kernel
  have e:gF (row a k (.int d::.str b::.int m::iz x::r))=x:=by unfold gF;rw[fP,if_neg hl];exact wE rfl
  rw[e,if_neg hl];exact⟨⟨3,by rcases hk with rfl|rfl<;>exact dh,rfl⟩,rfl,by simp⟩
 |root=>exact cS h
 |named=>exact cS h
 |chosen=>exact cS h
 |heir=>exact cS h
 |three k G=>rcases G with rfl|rfl|rfl<;>exact cS h
 |copy k G=>rcases G with rfl|rfl<;>exact cS h
def BQ (g:bZ r)(h:kindOf r∈eY):au [r,.str "stretch"]=some (iz (gF r),false):=by
 obtain⟨a,k,aE,rfl,d⟩:=g;obtain⟨⟨i,h1,h2⟩,_⟩:=IH (a:=a) d h;exact b9 h1 h2
def wF (h:kindOf r = "leave"):kindOf r∈eY:=by rw[h];decide +kernel
def Kf (g:bZ r)(h:bi r=true∨kindOf r = "leave"):au [r,.str "further"]=sI (iq r):=by
 rcases h with h|h
 ·obtain⟨a,o,rl,m,f,rfl,_,_⟩:=rE g h;rw[show iq (row a ("root" : Str) [.str o,.int m,.int f,.str rl])=f by unfold iq;rw[fP,if_pos rfl];rfl];exact b9 (i:=2) dh rfl
 ·obtain⟨a,d,b,p,m,x,f,e,_,_,_,G⟩:=o6 g h;rw[G,e];exact b9 (i:=5) dh rfl
def rG (r v:D):Bool:=decide (iA v &&& iA r=iA r) && !(mR r && decide (iq v<=iq r))
def nM (r v:D):D:=if decide (iA v &&& iA r=iA r)=true then (if(mR r && decide (iq v<=iq r))=true then .str "further" else .non)else .str "matters"
def yM (O:bZ r)(T:bZ v)(kr:kindOf r∈eY)(kv:bi v=true∨kindOf v = "leave"):∃d,iG [r,v]=some (d,false)/\D4 d .non=sO (rG r v)/\d=nM r v:=by
 have U:au [v,.str "matters"]=sI (iA v):=kv.elim (BO T) λh=>wD T (wF h);have t1:bj (fA ib (af (fA au (fV 1 (af (fS "matters") aj))) (af (fA au (fV 0 (af (fS "matters") aj))) aj))) [some (r,false),some (v,false)]=some (decide (iA v &&& iA r=iA r)):=cI (aG [.int (iA v),.int (iA r)] (aD (aG [v,.str "matters"] rfl U) (aD (aG [r,.str "matters"] rfl (wD O kr)) rfl)) (uh _ _));have t2:bj (f2 dJ (fA aM (fV 0 aj)) (fS "leave")) [some (r,false),some (v,false)]=some (mR r):=bS (a:=kindOf r) (bb:=false) (aG [r] rfl (iW O.c)) rfl;have t3:mR r=true->bj (f2 Q5 (fA au (fV 0 (af (fS "further") aj))) (fA au (fV 1 (af (fS "further") aj)))) [some (r,false),some (v,false)]=some (decide (iq v<=iq r)):=λh=>cI (bo (.int (iq r)) (.int (iq v)) (aG [r,.str "further"] rfl (Kf O (.inr (OH h)))) (aG [v,.str "further"] rfl (Kf T kv)) rfl);have t4:=fN t2 t3;unfold rG;cases G:decide (iA v &&& iA r=iA r) with
 |false=>exact⟨.str "matters",av rfl (bq (bI (p:=false) (t1.trans (by rw[G]))) (ax rfl)),rfl,by simp only[nM,G];rfl⟩
 |true=>
  cases M:(mR r && decide (iq v<=iq r)) with
  |true=>exact⟨.str "further",av rfl (a9 (bI (p:=true) (t1.trans (by rw[G]))) (bq (t4.trans (by rw[M])) (ax rfl))),rfl,by simp only[nM,G,M];rfl⟩
  |false=>exact⟨.non,av rfl (a9 (bI (p:=true) (t1.trans (by rw[G]))) (a9 (t4.trans (by rw[M])) (ax rfl))),rfl,by simp only[nM,G,M];rfl⟩
def rH (h:k∈eY):k∈bM:=by
 have:∀k∈eY,k∈bM:=by decide +kernel
 exact this k h
def iL (h:kindOf r∈eY):bi r=false:=by
 have:∀k∈eY,decide (k = "root")=false:=by decide +kernel
 exact this _ h
def rJ (g:bZ r)(h:bi r=false):aS [r]=sI (aF r):=by
 have:=qZ g.c;unfold sk at this;rwa [h,if_neg (by decide)]at this
def sq (cs:List Cl)(r v:D):Bool:=im cs (az 0 v) (az 3 v) (cV r) (aF r) && rG r v
def FJ (cs:List Cl)(r v:D):D:=if im cs (az 0 v) (az 3 v) (cV r) (aF r)=true then nM r v else .str "holder"
def II (cs:List Cl)(M:cs.length<=60)(O:bZ r)(U:bZ v)(T:kindOf r∈eY)(hv:bi v=true):∃d,gQ [.lst (cs.map aV),r,v]=some (d,false)/\D4 d .non=sO (sq cs r v)/\d=FJ cs r v:=by
 obtain⟨d,e1,e2,e3⟩:=yM O U T (.inl hv);have t1:bj (fA cO (fV 0 (fV 2 (af (fA au (fV 1 (af (fS "by") aj))) (af (fA aS (fV 1 aj)) aj))))) [sL (cs.map aV),some (r,false),some (v,false)]=some (im cs (az 0 v) (az 3 v) (cV r) (aF r)):=by
  refine cI (aG [.lst (cs.map aV),v,.str (cV r),.int (aF r)] (bR rfl (bR rfl (aD (aG [r,.str "by"] rfl (BP O (jI (.inl (rH T))))) (aD (aG [r] rfl (rJ O (iL T))) rfl)))) ?_);obtain⟨a,o,rl,m,f,rfl,_,_⟩:=rE U hv;exact w4 cs M _ _
 unfold sq;cases G:im cs (az 0 v) (az 3 v) (cV r) (aF r) with
 |false=>exact⟨.str "holder",av rfl (bq (bI (p:=false) (t1.trans (by rw[G]))) (ax rfl)),rfl,by simp only[FJ,G];rfl⟩
 |true=>exact⟨d,av rfl (a9 (bI (p:=true) (t1.trans (by rw[G]))) (ax (aG [r,v] rfl e1))),e2,by rw[e3];simp only[FJ,G];rfl⟩
def FK (cs:List Cl)(r v:D):Int:=match jL cs (az 0 v) (az 3 v) (aF r) with
 |.tup [_,_,.int n]=>n
 |_=>0
def FL (h:im cs o rl p day=true):∃n:Int,jL cs o rl day=.tup [.str "one",.str p,.int n]:=by
 unfold im jL at h;unfold jL;generalize ML cs o day=al at h ⊢;cases al with
 |nil=>
  have h:cU (.tup [.str "none"]) (.tup [.str "one",.str p])=true:=h;simp[fU]at h
 |cons b r=>
  rw[o5]at h ⊢;split at h
  ·have h:cU (.tup [.str "parted",.lst ((lP (b::r)).map .str)]) (.tup [.str "one",.str p])=true:=h;simp[fU]at h
  ·rename_i hn;rw[if_neg hn];have h:cU (.tup [.str "one",.str (ij rl b r).p]) (.tup [.str "one",.str p])=true:=h;have h:(ij rl b r).p=p:=by simpa [fU]using h
   exact⟨_,by rw[h]⟩
def IJ (h:im cs (az 0 v) (az 3 v) (cV r) (aF r)=true):jL cs (az 0 v) (az 3 v) (aF r)=.tup [.str "one",.str (cV r),.int (FK cs r v)]:=by
 obtain⟨n,e⟩:=FL h;unfold FK;rw[e]
def Mh (cs:List Cl)(r v:D):D:=.tup [.str "office",.str (az 0 v),.int (FK cs r v)]
def rK (g:∀r∈ab,bZ r)(hv:v∈bN (ao ab aa)):bZ v/\bi v=true:=by
 obtain⟨x,hx,rfl⟩:=vO hv;obtain⟨h1,h2⟩:=vN hx;exact⟨g _ (vL (b8 h1)),h2⟩
def FM (hl:ab.length<=60)(aa:Int):(bN (ao ab aa)).length<=60:=by
 unfold bN;rw[vI];exact vR (vM _ _) (vR (cw ab aa) hl)
def Dm {ab:LD}(g:∀r∈ab,bZ r)(hl:ab.length<=60)(aa:Int)(hn:((bN (ao ab aa)).map (az 0)).Nodup)(cs:List Cl)(M:cs.length<=60){O:Nat}{r:D}(hr:ab[O]? = some r)(kr:kindOf r∈eY):
  ie [.tup ab,.int aa,.lst (cs.map aV),.int O]=lT (((bN (ao ab aa)).filter (sq cs r)).map (Mh cs r)):=by
 have gC:gE ab:=⟨hl,λr hr=>(g r hr).c⟩;have U:=g r (vL hr);have Sl:=FM hl aa;have h1:=g9 (fi:=qp (fA gu (fV 0 (fV 1 aj)))) (nT:=1) (cap:=[2,4]) (tg:=cC 0) (c:=bj (f2 D4 (fA gQ (fV 1 (fV 2 (fV 0 aj)))) (fC .non))) (fe:=ai 0)
  (ρ:=[sT ab,sI aa,sL (cs.map aV),sI O,some (r,false),none]) (bN (ao ab aa)) id (sq cs r) id
  (by show(fA gu _ _).bind _=_;rw[aG [.tup ab,.int aa] rfl (rm gC aa),rF hn];simp) (by omega) λv hv=>by
   obtain⟨gv,G⟩:=rK g hv;obtain⟨d,e1,e2,_⟩:=II cs M U gv kr G;exact⟨[some (v,false),sL (cs.map aV),some (r,false)],rfl,cI (bo d .non (aG [.lst (cs.map aV),r,v] rfl e1) rfl e2),λ_=>⟨false,rfl⟩⟩
 rw[map_id]at h1;have M5:bH ((bN (ao ab aa)).filter (sq cs r))=true:=ce λv hv=>(rK g (vN hv).1).1.flat;refine av rfl (fF r (bo (.tup ab) (.int O) rfl rfl (by simp[c9 hr])) U.flat (cj h1 M5 (ax ?_)));refine km (fi:=bP (ai 5)) (nT:=1) (cap:=[2,4]) (tg:=cC 0) (fe:=fA aW (af (fS "office") (af (fA au (fV 0 (af (fS "office") aj))) (af (f2 bB (fA dS (fV 1 (fV 0 (af (fA aS (fV 2 aj)) aj)))) (fI 2)) aj))))
  (ρ:=[sT ab,sI aa,sL (cs.map aV),sI O,some (r,false),lT ((bN (ao ab aa)).filter (sq cs r))]) ((bN (ao ab aa)).filter (sq cs r)) id (Mh cs r) (by simp) (vR (vM _ _) (by omega)) λv hv=>?_
 obtain⟨RU,Xg⟩:=vN hv;obtain⟨gv,G⟩:=rK g RU;have T:(im cs (az 0 v) (az 3 v) (cV r) (aF r) && rG r v)=true:=Xg;rw[vC]at T;have hh:=IJ T.1;refine⟨[some (v,false),sL (cs.map aV),some (r,false)],rfl,false,?_⟩;obtain⟨a,o,rl,m,f,rfl,_,_⟩:=rE gv G;refine aG [.str "office",.str o,.int (FK cs r _)] (bR rfl (aD (aG [row a ("root" : Str) [.str o,.int m,.int f,.str rl],.str "office"] rfl kG) (bR (bo (jL cs o rl (aF r)) (.int 2) (aG [.lst (cs.map aV),row a ("root" : Str) [.str o,.int m,.int f,.str rl],.int (aF r)] (bR rfl (bR rfl (aD (aG [r] rfl (rJ U (iL kr))) rfl))) (mL cs M _)) rfl ?_) rfl))) (c7 _ (by simp));have hh:jL cs o rl (aF r)=_:=hh;rw[hh];simp[SF]
noncomputable def BR (day:Int)(x:Int×OI):Bool:=decide (x.1<=day) && (match x.2 with|none=>true|some u=>decide (day<u))
noncomputable def OC:OI->OI->Bool
 |_,none=>true
 |none,some _=>false
 |some x,some y=>decide (x<=y)
def IK (a b:OI):iT [uD a,uD b]=sO (OC a b):=by
 cases b with
 |none=>exact av rfl (bq (cI (by simp[uD])) (ax (by cases a<;>rfl)))
 |some y=>
  refine av rfl (a9 (cI (by simp[uD])) (ax ?_));cases a with
  |none=>exact dB (p:=false) (q:=false) (b1:=false) (by simp[uD]) (by simp)
  |some x=>exact dB (p:=true) (q:=decide (x<=y)) (b1:=false) (by simp[uD]) λ_=>by simp[uD]
def FN (a b:Int×OI):Bool:=decide (b.1<=a.1) && OC a.2 b.2
def Mi (a b:Int×OI):iH [iz a,iz b]=sO (FN a b) :=
 av rfl (ax (dB (b1:=false) (by simp[iz,BA]) λ_=>aG [uD a.2,uD b.2] (bR (by simp[iz,BB]) (bR (by simp[iz,BB]) rfl)) (IK _ _)))
def Kg {ab:LD}{i:Nat}{r:D}(hr:ab[i]? = some r)(g:bZ r)(h:bi r=false):fx [.tup ab,.int i]=sT [.int (aF r),.int i] :=
 av rfl (ax (aG [.int (aF r),.int i] (bR (aG [r] (by simp[c9 hr]) (rJ g h)) rfl) (by simp[sizeLine])))
def QP (a b c d:Int):K0 (.tup [.int a,.int b]) (.tup [.int c,.int d])=sO (decide (a<c∨(a=c/\b<d))):=by
 show(br [.i a,.i b] [.i c,.i d]).map _=_;rw[Me];rfl
def yN {ab:LD}{i j:Nat}{x y:D}(hx:ab[i]? = some x)(hy:ab[j]? = some y)(G:bZ x)(M:bZ y)(nx:bi x=false)(O:bi y=false):gh [.tup ab,.int i,.int j]=sO (c6 (x,i) (y,j)) :=
 av rfl (ax (bo (.tup [.int (aF x),.int i]) (.tup [.int (aF y),.int j]) (aG [.tup ab,.int i] rfl (Kg hx G nx)) (aG [.tup ab,.int j] rfl (Kg hy M O)) (QP _ _ _ _)))
def yO (r:D)(G:Nat)(x:D×Nat):Bool:=c6 x (r,G) && ((BR (aF r) (gF x.1) && FN (gF r) (gF x.1)) && rG r x.1)
def BS (r:D)(G:Nat)(x:D×Nat):D:=if c6 x (r,G)=true then (if(BR (aF r) (gF x.1) && FN (gF r) (gF x.1))=true then nM r x.1 else .str "days")else .str "order"
def IL {ab:LD}{M G:Nat}{r l:D}(hr:ab[M]? = some r)(hl:ab[G]? = some l)(T:bZ r)(gl:bZ l)(kr:kindOf r∈eY)(kl:kindOf l = "leave"):∃d,iI [.tup ab,.int M,.int G]=some (d,false)/\D4 d .non=sO (yO r M (l,G))/\d=BS r M (l,G):=by
 have nr:=iL kr;have nl:=iL (wF kl);obtain⟨d,e1,e2,e3⟩:=yM T gl kr (.inr kl);let E:DL.Env:=[sT ab,sI M,sI G,some (r,false),some (iz (gF l),false)];have al:∀ρ:DL.Env,ρ[0]? = some (sT ab)->ρ[2]? = some (sI G)->f2 bB (ai 0) (ai 2) ρ=some (l,false):=λρ h0 h2=>bo (.tup ab) (.int G) (by simp[h0]) (by simp[h2]) (by simp[c9 hl]);have t1:bj (fA gh (fV 0 (fV 2 (fV 1 aj)))) E=some (c6 (l,G) (r,M)):=cI (aG [.tup ab,.int G,.int M] rfl (yN hl hr gl T nl nr));have t2:bj (fA jn (af (fA aS (fV 3 aj)) (fV 4 aj))) E=some (BR (aF r) (gF l)):=cI (aG [.int (aF r),iz (gF l)] (aD (aG [r] rfl (rJ T nr)) (bR rfl rfl)) (BF _ _ _));have t3:bj (fA iH (af (fA au (fV 3 (af (fS "stretch") aj))) (fV 4 aj))) E=some (FN (gF r) (gF l)):=cI (aG [iz (gF r),iz (gF l)] (aD (aG [r,.str "stretch"] rfl (BQ T kr)) (bR rfl rfl)) (Mi _ _));have t4:=bV (bI t2) λ_=>bI t3;have go:∀(h:FS)(res:Option Res),h E=res->ay (aK 3 (f2 bB (ai 0) (ai 1))) (ay (aK 4 (fA au (af (f2 bB (ai 0) (ai 2)) (af (fS "stretch") aj)))) h) [sT ab,sI M,sI G,none,none]=res:=λh res k=>
  fF r (bo (.tup ab) (.int M) rfl rfl (by simp[c9 hr])) T.flat (fF (iz (gF l)) (aG [l,.str "stretch"] (aD (al _ rfl rfl) rfl) (BQ gl (wF kl))) (jv _) k)
 unfold yO;cases O:c6 (l,G) (r,M) with
 |false=>exact⟨.str "order",av rfl (go _ _ (bq (bI (p:=false) (t1.trans (by rw[O]))) (ax rfl))),rfl,by simp only[BS,O];rfl⟩
 |true=>
  cases U:(BR (aF r) (gF l) && FN (gF r) (gF l)) with
  |false=>exact⟨.str "days",av rfl (go _ _ (a9 (bI (p:=true) (t1.trans (by rw[O]))) (bq (t4.trans (by rw[←Bool.not_and,U];rfl)) (ax rfl)))),rfl,by simp only[BS,O,U];rfl⟩
  |true=>exact⟨d,av rfl (go _ _ (a9 (bI (p:=true) (t1.trans (by rw[O]))) (a9 (t4.trans (by rw[←Bool.not_and,U];rfl)) (ax (aG [r,l] (bR rfl (aD (al _ rfl rfl) rfl)) e1))))),e2,by rw[e3];simp only[BS,O,U];rfl⟩
def lS {ab:LD}{aa:Int}{i:Nat}{r:D}(hr:ab[i]? = some r)(g:bZ r):gg [.tup ab,.int aa,.int i]=sO (decide (aU r<=aa) && mR r):=by
 have G:c8 [.tup ab,.int aa,.int i]=sO (decide (aU r<=aa)):=by
  obtain⟨a,k,aE,rfl,d⟩:=g;exact kF hr aa
 exact av rfl (ax (dB (aG [.tup ab,.int aa,.int i] rfl G) λ_=>bo (.str (kindOf r)) (.str "leave") (aG [r] (bR (bo (.tup ab) (.int i) rfl rfl (by simp[c9 hr])) rfl) (iW g.c)) rfl (by simp[mR])))
noncomputable def rL (K:KL)(p:Str):KL:=(K.filter λx=>mR x.1).filter λx=>decide (az 2 x.1=p)
def yP (g:∀r∈ab,bZ r)(h:x∈rL (ao ab aa) p):ab[x.2]? = some x.1/\bZ x.1/\kindOf x.1 = "leave":=by
 obtain⟨h1,_⟩:=vN h;obtain⟨h2,h3⟩:=vN h1;exact⟨b8 h2,g _ (vL (b8 h2)),OH h3⟩
def Dn {ab:LD}(g:∀r∈ab,bZ r)(hl:ab.length<=60)(aa:Int)(p:Str):ky [.tup ab,.int aa,.str p]=lT ((rL (ao ab aa) p).map λx=>.int x.2):=by
 have M:=cw ab aa;have h1:=g9 (fi:=bP (fA cA (fV 0 (fV 1 aj)))) (nT:=1) (cap:=[0,1]) (tg:=cC 0) (c:=bj (fA gg (fV 1 (fV 2 (fV 0 aj))))) (fe:=ai 0)
  (ρ:=[sT ab,sI aa,sS p,none]) (ao ab aa) (λx=>.int x.2) (λx=>mR x.1) (λx=>.int x.2)
  (by show(fA cA _ _).bind _=_;rw[aG [.tup ab,.int aa] rfl (kB ab (λr hr=>(g r hr).c.rp) (by omega) aa)];rfl) (by omega) λx hx=>by
   have hk:decide (aU x.1<=aa)=true:=(vN hx).2;have:=lS (aa:=aa) (b8 hx) (g _ (vL (b8 hx)));rw[hk,Bool.true_and]at this;exact⟨_,rfl,cI (aG [.tup ab,.int aa,.int x.2] rfl this),λ_=>⟨false,rfl⟩⟩
 have G:bH (((ao ab aa).filter λx=>mR x.1).map λx=>D.int x.2)=true:=ce λd hd=>by obtain⟨x,_,rfl⟩:=vO hd;rfl
 refine av rfl (cj h1 G (ax ?_));refine g9 (fi:=bP (ai 3)) (nT:=1) (cap:=[2,0]) (tg:=cC 0) (c:=bj (f2 dJ (fA au (af (f2 bB (ai 2) (ai 0)) (af (fS "person") aj))) (ai 1))) (fe:=ai 0)
  (ρ:=[sT ab,sI aa,sS p,lT (((ao ab aa).filter λx=>mR x.1).map λx=>.int x.2)]) ((ao ab aa).filter λx=>mR x.1) (λx=>.int x.2) (λx=>decide (az 2 x.1=p)) (λx=>.int x.2) (by simp) (vR (vM _ _) (by omega)) λx hx=>?_
 obtain⟨h2,h3⟩:=vN hx;obtain⟨a,d,b,q,m,st,f,e,_⟩:=o6 (g _ (vL (b8 h2))) (OH h3);refine⟨[sI x.2,sS p,sT ab],rfl,cI (bo (.str (az 2 x.1)) (.str p) (aG [x.1,.str "person"] (bR (bo (.tup ab) (.int x.2) rfl rfl (by simp[c9 (b8 h2)])) rfl) ?_) rfl (by simp)),λ_=>⟨false,rfl⟩⟩;rw[e];exact b9 (i:=2) dh rfl
def Dp {ab:LD}(g:∀r∈ab,bZ r)(hl:ab.length<=60)(aa:Int){G:Nat}{r:D}(hr:ab[G]? = some r)(O:kindOf r∈eY):
  iU [.tup ab,.int aa,.int G]=lT (((rL (ao ab aa) (cV r)).filter (yO r G)).map λx=>.tup [.str "leave",.int x.2]):=by
 have T:=g r (vL hr);have U:=cw ab aa;have RX:(rL (ao ab aa) (cV r)).length<=60:=vR (vM _ _) (vR (vM _ _) (by omega));have M:bH ((rL (ao ab aa) (cV r)).map λx=>D.int x.2)=true:=ce λd hd=>by obtain⟨x,_,rfl⟩:=vO hd;rfl
 refine av rfl (cj (ds:=(rL (ao ab aa) (cV r)).map λx=>.int x.2) (aG [.tup ab,.int aa,.str (cV r)] (bR rfl (bR rfl (aD (aG [r,.str "by"] (bR (bo (.tup ab) (.int G) rfl rfl (by simp[c9 hr])) rfl) (BP T (jI (.inl (rH O))))) rfl))) (Dn g hl aa _)) M (ax ?_));refine g9 (fi:=bP (ai 3)) (nT:=1) (cap:=[0,2]) (tg:=cC 0) (c:=bj (f2 D4 (fA iI (fV 1 (fV 2 (fV 0 aj)))) (fC .non))) (fe:=fA aW (af (fS "leave") (fV 0 aj)))
  (ρ:=[sT ab,sI aa,sI G,lT ((rL (ao ab aa) (cV r)).map λx=>.int x.2)]) (rL (ao ab aa) (cV r)) (λx=>.int x.2) (yO r G) (λx=>.tup [.str "leave",.int x.2]) (by simp) (by omega) λx hx=>?_
 obtain⟨h1,h2,h3⟩:=yP g hx;obtain⟨d,e1,e2,_⟩:=IL hr h1 T h2 O h3;exact⟨[sI x.2,sT ab,sI G],rfl,cI (bo d .non (aG [.tup ab,.int G,.int x.2] rfl e1) rfl e2),λ_=>⟨false,aG [.str "leave",.int x.2] rfl (c7 _ (by simp))⟩⟩
abbrev Bs:=Option Str×Int
noncomputable def zp:Bs->D
 | (some o,n)=>.tup [.str "office",.str o,.int n]
 | (none,n)=>.tup [.str "leave",.int n]
noncomputable def yQ:Bs->List At
 | (some o,n)=>[.i n,.s ("office" : Str),.s o,.i n]
 | (none,n)=>[.i n,.s ("leave" : Str),.i n]
def FP (b:Bs):bx (zp b)=true:=by rcases b with⟨_|o,n⟩<;>rfl
def IM (b:Bs):bB (zp b) (.int (-1))=sI b.2:=by rcases b with⟨_|o,n⟩<;>rfl
def FQ (a b:Bs):(br (yQ a) (yQ b)).isSome=true:=by
 have M:("office" : Str) ≠ "leave":=by decide +kernel
 rcases a with⟨_|o,n⟩<;>rcases b with⟨_|o',G⟩
 ·show(br [.i n,.s ("leave" : Str),.i n] [.i G,.s ("leave" : Str),.i G]).isSome=true;rw[br];split
  ·rw[br,if_pos rfl,br];split
   ·rw[br];rfl
   ·rfl
  ·rfl
 ·show(br [.i n,.s ("leave" : Str),.i n] [.i G,.s ("office" : Str),.s o',.i G]).isSome=true;rw[br];split
  ·rw[br,if_neg (Ne.symm M)];rfl
  ·rfl
 ·show(br [.i n,.s ("office" : Str),.s o,.i n] [.i G,.s ("leave" : Str),.i G]).isSome=true;rw[br];split
  ·rw[br,if_neg M];rfl
  ·rfl
 ·show(br [.i n,.s ("office" : Str),.s o,.i n] [.i G,.s ("office" : Str),.s o',.i G]).isSome=true;rw[br];split
  ·rw[br,if_pos rfl,br];split
   ·rw[br];split
    ·rw[br];rfl
    ·rfl
   ·rfl
  ·rfl
def IN (h:yQ a=yQ b):a=b:=by
 rcases a with⟨_|o,n⟩<;>rcases b with⟨_|o',G⟩<;>simp[yQ]at h
 ·rw[h]
 ·rw[h.1,h.2.1]
def BU (l:List Bs):eJ (l.map yQ)=true:=by
 unfold eJ;simp[all_eq_true,FQ]
def FR (e:cQ (yQ a)=cQ (yQ b)):a=b:=IN (ny (BU [a,b]) (by simp) (by simp) e)
def UI (cs:List Cl)(r v:D):Bs:=(some (az 0 v),FK cs r v)
def wG (K:KL)(cs:List Cl)(r:D)(G:Nat):List Bs:=((bN K).filter (sq cs r)).map (UI cs r)++((rL K (cV r)).filter (yO r G)).map λx=>(none,(x.2:Int))
def IP (K:KL)(cs:List Cl)(r:D)(G:Nat):List Bs:=eI (λb=>cQ (yQ b)) (wG K cs r G)
def Dq (hn:((bN (ao ab aa)).map (az 0)).Nodup)(cs:List Cl)(r:D)(G:Nat):(wG (ao ab aa) cs r G).Nodup:=by
 unfold wG;rw[nodup_append];refine⟨?_,?_,?_⟩
 ·exact pairwise_map.mpr ((List.Pairwise.sublist filter_sublist (pairwise_map.mp hn)).imp λh e=>h (vK (Prod.mk.inj e).1))
 ·refine pairwise_map.mpr ((List.Pairwise.sublist (filter_sublist.trans (filter_sublist.trans filter_sublist)) (pairwise_map.mp (eF ab aa))).imp λh e=>h ?_);have:=(Prod.mk.inj e).2;omega
 ·intro a ha b hb e;obtain⟨v,_,rfl⟩:=vO ha;obtain⟨x,_,rfl⟩:=vO hb;cases (Prod.mk.inj e).1
theorem ui {α:Type}{g:α->D}{h:α->List At}:∀(l:List α),(∀x∈l,Mb (g x)=some (h x))->jk (l.map g)=some (l.map h)
 |[],_=>rfl
 |x::l,k=>by
  rw[uY,jk,k x mX,vJ,ui l λy hy=>k y (mZ _ hy)];rfl
def BV (hl:ab.length<=30)(aa:Int)(cs:List Cl)(r:D)(G:Nat):(wG (ao ab aa) cs r G).length<=60:=by
 have h1:((bN (ao ab aa)).filter (sq cs r)).length<=30:=by
  refine vR (vM _ _) ?_;unfold bN;rw[vI];exact vR (vM _ _) (vR (cw ab aa) hl)
 have h2:((rL (ao ab aa) (cV r)).filter (yO r G)).length<=30:=vR (vM _ _) (vR (vM _ _) (vR (vM _ _) (vR (cw ab aa) hl)));unfold wG;rw[uZ,vI,vI];omega
def FU {f:FE}{ρ:DL.Env}{b:Bool}(l:List Bs)(hl:l.length<=60)(hn:l.Nodup)(e:f ρ=some (.lst (l.map zp),b)):Ad f (pY [] (fA aW (af (f2 bB (ai 0) (f1 vc (fI 1))) (fV 0 aj)))) ρ=lT ((eI (λb=>cQ (yQ b)) l).map zp):=by
 have hm:ji (pY [] (fA aW (af (f2 bB (ai 0) (f1 vc (fI 1))) (fV 0 aj))) ρ) (l.map zp)=some (l.map λb=>.tup [.int b.2,zp b]):=ig l λb _=>by
  show(fA aW _ _).map _=_;rw[aG [.int b.2,zp b] (bR (bo (zp b) (.int (-1)) rfl rfl (IM b)) (bR rfl rfl)) (c7 _ (by simp))];rfl
 have hk:jk (l.map λb=>D.tup [.int b.2,zp b])=some (l.map yQ):=ui l λb _=>by rcases b with⟨_|o,n⟩<;>rfl
 have G:(l.map yQ).length<64/\eJ (l.map yQ)=true/\True/\((l.map yQ).map cQ).Nodup:=by
  refine⟨by rw[vI];omega,BU l,trivial,?_⟩;rw[uP];exact pairwise_map.mpr (List.Pairwise.imp (λh e=>h (FR e)) hn)
 unfold Ad we;rw[e];simp only[vJ];rw[hm];simp only[vJ];rw[hk];simp only[vJ];rw[if_pos G];unfold jj;have M:((eI (λb=>cQ (yQ b)) l).map λb=>(yQ b,zp b))=eI (λp:List At×D=>cQ p.1) (l.map λb=>(yQ b,zp b)):=by
  refine jY _ (λx hx y hy e=>?_) ((b7 _ _).map _) ?_
  ·obtain⟨a,_,rfl⟩:=vO hx;obtain⟨b,_,rfl⟩:=vO hy;rw[FR e]
  ·exact pairwise_map.mpr (hU _ _)
 rw[zip_map',←M,uP];rfl
section
variable {ab:LD}(g:∀r∈ab,bZ r) (hl:ab.length<=30) (aa:Int) (hn:((bN (ao ab aa)).map (az 0)).Nodup)
include g hl hn
theorem yR (cs:List Cl)(U:cs.length<=60){G:Nat}{r:D}(hr:ab[G]? = some r)(T:kindOf r∈eY)(hk:aU r<=aa):dW [.tup ab,.int aa,.lst (cs.map aV),.int G]=lT ((IP (ao ab aa) cs r G).map zp):=by
 have gr:=g r (vL hr);have wd:∀(ρ:DL.Env)(j:Nat),ρ[0]? = some (sT ab)->ρ[j]? = some (sI G)->fA aM (af (f2 bB (ai 0) (ai j)) aj) ρ=sS (kindOf r):=λρ j h0 h2=>aG [r] (bR (bo (.tup ab) (.int G) (by simp[h0]) (by simp[h2]) (by simp[c9 hr])) rfl) (iW gr.c);have Ps:c8 [.tup ab,.int aa,.int G]=sO true:=by
  obtain⟨a,k,aE,rfl,d⟩:=id gr;rw[kF hr aa,sv (show a<=aa from hk)]
 have Xh:fz [.tup ab,.int aa,.int G]=sO (decide (kindOf r∈[("paper" : Str),"like","copy"])):=av rfl (ax (dB (p:=true) (aG [.tup ab,.int aa,.int G] rfl Ps) λ_=>bo (.str (kindOf r)) (.tup ([("paper" : Str),"like","copy"].map .str)) (wd _ 2 rfl rfl) rfl (js _ _)));have hb:dU [.tup ab,.int aa,.int G]=sO true:=by
  refine(av rfl (ax (qw (aG [.tup ab,.int aa,.int G] rfl (lS hr gr)) λ_=>aG [.tup ab,.int aa,.int G] rfl Xh))).trans ?_;rw[sv hk,Bool.true_and];have:∀k∈eY,(decide (k = "leave") || decide (k∈[("paper" : Str),"like","copy"]))=true:=by decide +kernel
  unfold mR;rw[this _ T]
 have Pg:decide (kindOf r = "copy")=false:=by
  have:∀k∈eY,decide (k = "copy")=false:=by decide +kernel
  exact this _ T
 have O:=BV hl aa cs r G;have M5:bH ((wG (ao ab aa) cs r G).map zp)=true:=ce λd hd=>by obtain⟨b,_,rfl⟩:=vO hd;exact FP b
 refine av rfl (a9 (bI (p:=true) (cI (aG [.tup ab,.int aa,.int G] rfl hb))) (a9 (bS (a:=kindOf r) (bb:=false) (wd _ 3 rfl rfl) Pg) (cj (ds:=(wG (ao ab aa) cs r G).map zp) ?_ M5 (ax (FU (b:=false) _ O (Dq hn cs r G) rfl)))));have ho:=Dm g (by omega) aa hn cs U hr T;have hv:=Dp g (by omega) aa hr T;refine fW (x:=.lst (((bN (ao ab aa)).filter (sq cs r)).map (Mh cs r))) (y:=.lst (((rL (ao ab aa) (cV r)).filter (yO r G)).map λx=>.tup [.str "leave",.int x.2])) (b1:=true) (b2:=true) (aG [.tup ab,.int aa,.lst (cs.map aV),.int G] rfl ho) (aG [.tup ab,.int aa,.int G] rfl hv) ?_;have M:=O;unfold wG at M ⊢;rw[uZ,vI,vI]at M;refine(if_pos (cZ (by rw[vI,vI];omega))).trans ?_;rw[uW,uP,uP];rfl
end
def Mj (K:KL)(c r:D):Bool:=decide (cV c=cV r) || (!decide (kindOf r = "copy") && (bN K).any λv=>decide (iA v &&& iA r=iA r) && im (bw K) (az 0 v) (az 3 v) (cV c) (aF c))
def any_filter {α:Type}(l:List α)(p f:α->Bool):((l.filter p).map f).any id=l.any λx=>p x && f x:=by
 induction l with
 |nil=>rfl
 |cons x l G=>
  rw[filter_cons,any_cons,←G];cases h:p x with
  |true=>rw[if_pos rfl,uY,any_cons];rfl
  |false=>rw[if_neg (by decide)];rfl
def Mk {ab:LD}(g:∀r∈ab,bZ r)(hl:ab.length<=60)(aa:Int)(kJ:(bw (ao ab aa)).length<=60)(hn:((bN (ao ab aa)).map (az 0)).Nodup){M O:Nat}{c r:D}(hc:ab[M]? = some c)(hr:ab[O]? = some r)(kc:kindOf c = "call")(kr:kindOf r∈bM):
  lK [.tup ab,.int aa,.lst ((bw (ao ab aa)).map aV),.int M,.int O]=sO (Mj (ao ab aa) c r):=by
 have gC:gE ab:=⟨hl,λr hr=>(g r hr).c⟩;have gc:=g c (vL hc);have gr:=g r (vL hr);have ac:=c9 hc;have ar:=c9 hr;have pc:=BP gc (jI (.inr kc));have pr:=BP gr (jI (.inl kr));have T:∀v∈bN (ao ab aa),bZ v/\bi v=true:=λv hv=>by
  obtain⟨x,hx,rfl⟩:=vO hv;obtain⟨h1,h2⟩:=vN hx;exact⟨g _ (vL (b8 h1)),h2⟩
 have Ym:(bN (ao ab aa)).length<=60:=by
  unfold bN;rw[vI];exact vR (vM _ _) (vR (cw ab aa) hl)
 have Mt:aS [c]=sI (aF c):=by
  have:=qZ gc.c;unfold sk at this;rwa [if_neg (by unfold bi;rw[kc];decide +kernel)]at this
 have Ul:∀(v7:OB),bj (f2 dJ (ai 6) (fA au (fV 5 (af (fS "by") aj)))) [sT ab,sI aa,sL ((bw (ao ab aa)).map aV),sI M,sI O,some (r,false),sS (cV c),v7]=some (decide (cV c=cV r)):=λv7=>cI (bo (.str (cV c)) (.str (cV r)) rfl (aG [r,.str "by"] rfl pr) (by simp));have Um:∀(v7:OB),bj (f2 dJ (fA aM (fV 5 aj)) (fS "copy")) [sT ab,sI aa,sL ((bw (ao ab aa)).map aV),sI M,sI O,some (r,false),sS (cV c),v7]=some (decide (kindOf r = "copy")):=λv7=>bS (a:=kindOf r) (bb:=false) (aG [r] rfl (iW gr.c)) rfl;refine av rfl (fF r (bo (.tup ab) (.int O) rfl rfl (by simp[ar])) gr.flat (fF (.str (cV c)) (aG [c,.str "by"] (bR (bo (.tup ab) (.int M) rfl rfl (by simp[ac])) rfl) pc) rfl ?_));unfold Mj;cases h1:decide (cV c=cV r) with
 |true=>exact bq ((Ul none).trans (by rw[h1])) (ax rfl)
 |false=>
  refine a9 ((Ul none).trans (by rw[h1])) ?_;cases h2:decide (kindOf r = "copy") with
  |true=>exact bq ((Um none).trans (by rw[h2])) (ax rfl)
  |false=>
   have kb:kindOf r∈eY:=by
    have D8:=of_decide_eq_false h2;have:∀k∈bM,k ≠ "copy"->k∈eY:=by decide +kernel
    exact this _ kr D8
   have pm:=wD gr kb;refine a9 ((Um none).trans (by rw[h2])) ?_;have G:=g9 (fi:=qp (fA gu (fV 0 (fV 1 aj)))) (nT:=1) (cap:=[5]) (tg:=cC 0) (c:=bj (fA ib (af (fA au (fV 0 (af (fS "matters") aj))) (af (fA au (fV 1 (af (fS "matters") aj))) aj)))) (fe:=ai 0)
    (ρ:=[sT ab,sI aa,sL ((bw (ao ab aa)).map aV),sI M,sI O,some (r,false),sS (cV c),none]) (bN (ao ab aa)) id (λv=>decide (iA v &&& iA r=iA r)) id
    (by show(fA gu _ _).bind _=_;rw[aG [.tup ab,.int aa] rfl (rm gC aa),rF hn];simp) (by omega) λv hv=>by
     obtain⟨gv,U⟩:=T v hv;exact⟨[some (v,false),some (r,false)],rfl,cI (aG [.int (iA v),.int (iA r)] (aD (aG [v,.str "matters"] rfl (BO gv U)) (aD (aG [r,.str "matters"] rfl pm) rfl)) (uh _ _)),λ_=>⟨false,rfl⟩⟩
   rw[map_id]at G;refine cj (ds:=(bN (ao ab aa)).filter λv=>decide (iA v &&& iA r=iA r)) G (ce λv hv=>(T v (vN hv).1).1.flat) (ax ?_);have Pt:=km (fi:=bP (ai 7)) (nT:=1) (cap:=[2,6,0,3]) (tg:=cC 0) (fe:=fA cO (fV 1 (fV 0 (fV 2 (af (fA aS (af (f2 bB (ai 3) (ai 4)) aj)) aj)))))
    (ρ:=[sT ab,sI aa,sL ((bw (ao ab aa)).map aV),sI M,sI O,some (r,false),sS (cV c),lT ((bN (ao ab aa)).filter λv=>decide (iA v &&& iA r=iA r))]) ((bN (ao ab aa)).filter λv=>decide (iA v &&& iA r=iA r)) id (λv=>.bl (im (bw (ao ab aa)) (az 0 v) (az 3 v) (cV c) (aF c)))
    (by simp) (vR (vM _ _) (by omega)) λv hv=>by
     obtain⟨gv,U⟩:=T v (vN hv).1;obtain⟨a,o,rl,m,f,rfl,_,_⟩:=rE gv U;exact⟨[some (row a ("root" : Str) [.str o,.int m,.int f,.str rl],false),sL ((bw (ao ab aa)).map aV),sS (cV c),sT ab,sI M],rfl,false,aG [.lst ((bw (ao ab aa)).map aV),row a ("root" : Str) [.str o,.int m,.int f,.str rl],.str (cV c),.int (aF c)] (bR rfl (bR rfl (bR rfl (aD (aG [c] (bR (bo (.tup ab) (.int M) rfl rfl (by simp[ac])) rfl) Mt) rfl)))) (w4 _ kJ _ _)⟩
   refine(aG [_] (aD Pt rfl) ?_);show(pH _).map _=_;rw[qx,map_some,any_filter];rfl
def Av (g:bZ r)(h:kindOf r = "call"):∃a d b,∃n:Nat,r=row a ("call" : Str) [.int d,.str b,.int n]:=by
 obtain⟨a,k,aE,rfl,d⟩:=g;have hk:k = "call":=h;clear h;cases d with
 |copy k G d b n=>subst hk;exact⟨a,d,b,n,rfl⟩
 |root=>exact cS hk
 |named=>exact cS hk
 |chosen=>exact cS hk
 |heir=>exact cS hk
 |three k G=>rcases G with rfl|rfl|rfl<;>exact cS hk
 |leave=>exact cS hk
 |paper k G=>rcases G with rfl|rfl<;>exact cS hk
def IQ (ab:LD)(aa:Int)(G:Nat)(r:D)(day:Int)(c:D):Bool:=decide (kindOf c = "call") && (decide (gL 2 c=G) && (decide (aF c<=day) && (iV ab aa c && Mj (ao ab aa) c r)))
def Aw (e:f ρ=some (.str a,bb)):bj (f2 uL f (fS b)) ρ=some (!decide (a=b)):=cI (fW (x:=.str a) (y:=.str b) (b1:=bb) (b2:=false) e rfl (by simp))
section
variable {ab:LD}(g:∀r∈ab,bZ r) (hl:ab.length<=60) (aa:Int) (kJ:(bw (ao ab aa)).length<=60) (hn:((bN (ao ab aa)).map (az 0)).Nodup)
include g hl kJ hn
theorem yS {M G:Nat}{c r:D}(hc:ab[M]? = some c)(hr:ab[G]? = some r)(kr:kindOf r∈bM)(day:Int):jB [.tup ab,.int aa,.lst ((bw (ao ab aa)).map aV),.int M,.int G,.int day]=sO (IQ ab aa G r day c):=by
 have T:=g c (vL hc);have ac:=c9 hc;have tw:bj (f2 uL (fA aM (fV 6 aj)) (fS "call")) [sT ab,sI aa,sL ((bw (ao ab aa)).map aV),sI M,sI G,sI day,some (c,false)]=some (!decide (kindOf c = "call")):=Aw (a:=kindOf c) (bb:=false) (aG [c] rfl (iW T.c));refine av rfl (fF c (bo (.tup ab) (.int M) rfl rfl (by simp[ac])) T.flat ?_);unfold IQ;by_cases hk:kindOf c = "call"
 ·obtain⟨a,d,b,n,U⟩:=Av T hk;have e1:gL 2 c=(n:Int):=by rw[U];rfl
  have e2:aF c=d:=by rw[U];rfl
  have po:au [c,.str "of"]=sI n:=by rw[U];exact b9 (i:=2) dh rfl
  have pd:aS [c]=sI d:=by
   have:=qZ T.c;unfold sk at this;rwa [if_neg (by unfold bi;rw[hk];decide +kernel),e2]at this
  have t2:bj (f2 uL (fA au (fV 6 (af (fS "of") aj))) (ai 4)) [sT ab,sI aa,sL ((bw (ao ab aa)).map aV),sI M,sI G,sI day,some (c,false)]=some (!decide ((n:Int)=G)):=cI (bo (.int n) (.int G) (aG [c,.str "of"] rfl po) rfl (by simp));have t3:bj (f2 AF (fA aS (fV 6 aj)) (ai 5)) [sT ab,sI aa,sL ((bw (ao ab aa)).map aV),sI M,sI G,sI day,some (c,false)]=some (decide (day<d)):=cI (bo (.int d) (.int day) (aG [c] rfl pd) rfl rfl);have O:=bV tw λ_=>bV t2 λ_=>t3;rw[e1,e2,sv hk,Bool.true_and];rw[sv hk]at O;by_cases h1:(n:Int)=G
  ·by_cases h2:d<=day
   ·rw[sv h1,sv h2,Bool.true_and,Bool.true_and];rw[sv h1,MO (by omega)]at O;exact a9 O (ax (dB (aG [.tup ab,.int aa,.int M] rfl (mI ab (λr hr=>(g r hr).c.rp) (by omega) aa hc)) λ_=>aG [.tup ab,.int aa,.lst ((bw (ao ab aa)).map aV),.int M,.int G] rfl (Mk g hl aa kJ hn hc hr hk kr)))
   ·rw[MO h2,Bool.false_and,Bool.and_false];rw[sv h1,sv (show day<d by omega)]at O;exact bq O (ax rfl)
  ·rw[MO h1,Bool.false_and];rw[MO h1]at O;exact bq O (ax rfl)
 ·rw[MO hk,Bool.false_and];refine bq (bV (p:=true) (q:=false) (tw.trans (by rw[MO hk];rfl)) λh=>by cases h) (ax rfl)
def iX (ab:LD)(aa:Int)(G:Nat)(r:D)(day:Int):LN:=if aU r<=aa/\kindOf r∈bM then ((ao ab aa).filter λx=>IQ ab aa G r day x.1).map (·.2)else []
theorem o7 {G:Nat}{r:D}(hr:ab[G]? = some r)(day:Int):jC [.tup ab,.int aa,.lst ((bw (ao ab aa)).map aV),.int G,.int day]=lT ((iX ab aa G r day).map λn:Nat=>.int n):=by
 have gr:=g r (vL hr);have ar:=c9 hr;have O:c8 [.tup ab,.int aa,.int G]=sO (decide (aU r<=aa)):=by
  obtain⟨a,k,aE,e,d⟩:=gr;rw[e]at hr;rw[show aU r=a by rw[e];rfl];exact kF hr aa
 have wd:∀ρ:DL.Env,ρ[0]? = some (sT ab)->ρ[2]? = some (sI G)->fA aM (af (f2 bB (ai 0) (ai 2)) aj) ρ=sS (kindOf r):=λρ h0 h2=>aG [r] (bR (bo (.tup ab) (.int G) (by simp[h0]) (by simp[h2]) (by simp[ar])) rfl) (iW gr.c);have T:gg [.tup ab,.int aa,.int G]=sO (decide (aU r<=aa) && decide (kindOf r = "leave")):=av rfl (ax (dB (aG [.tup ab,.int aa,.int G] rfl O) λ_=>bo (.str (kindOf r)) (.str "leave") (wd _ rfl rfl) rfl (by simp)));have U:fz [.tup ab,.int aa,.int G]=sO (decide (aU r<=aa) && decide (kindOf r∈[("paper" : Str),"like","copy"])):=av rfl (ax (dB (aG [.tup ab,.int aa,.int G] rfl O) λ_=>bo (.str (kindOf r)) (.tup ([("paper" : Str),"like","copy"].map .str)) (wd _ rfl rfl) rfl (js _ _)));have hb:dU [.tup ab,.int aa,.int G]=sO (decide (aU r<=aa/\kindOf r∈bM)):=by
  refine(av rfl (ax (qw (aG [.tup ab,.int aa,.int G] rfl T) λ_=>aG [.tup ab,.int aa,.int G] rfl U))).trans ?_;congr 3;simp only[bM,mem_cons,not_mem_nil,or_false];by_cases h1:aU r<=aa
  ·simp[h1]
  ·simp[h1]
 unfold iX;by_cases hx:aU r<=aa/\kindOf r∈bM
 ·rw[if_pos hx];refine av rfl (a9 (bI (p:=true) (cI (aG [.tup ab,.int aa,.int G] rfl (by rw[hb,sv hx])))) (ax ?_));have M:=g9 (fi:=bP (fA cA (fV 0 (fV 1 aj)))) (nT:=1) (cap:=[0,1,2,3,4]) (tg:=cC 0) (c:=bj (fA jB (fV 1 (fV 2 (fV 3 (fV 0 (fV 4 (fV 5 aj)))))))) (fe:=ai 0)
   (ρ:=[sT ab,sI aa,sL ((bw (ao ab aa)).map aV),sI G,sI day]) (ao ab aa) (λx=>.int x.2) (λx=>IQ ab aa G r day x.1) (λx=>.int x.2)
   (by show(fA cA _ _).bind _=_;rw[aG [.tup ab,.int aa] rfl (kB ab (λr hr=>(g r hr).c.rp) (by omega) aa)];rfl) (vR (cw ab aa) (by omega)) λx hx2=>by
    exact⟨_,rfl,cI (aG [.tup ab,.int aa,.lst ((bw (ao ab aa)).map aV),.int x.2,.int G,.int day] rfl (yS g hl aa kJ hn (b8 hx2) hr hx.2 day)),λ_=>⟨false,rfl⟩⟩
  rw[uP];exact M
 ·rw[if_neg hx];exact av rfl (bq (bI (p:=false) (cI (aG [.tup ab,.int aa,.int G] rfl (by rw[hb,MO hx])))) (ax (aG [] rfl (gk _ (by simp)))))
omit kJ in
theorem FV (ho:(cB (ao ab aa)).length<=60){G:Nat}{r:D}(hr:ab[G]? = some r)(day:Int):wv [.tup ab,.int aa,.int G,.int day]=lT ((iX ab aa G r day).map λn:Nat=>.int n):=by
 obtain⟨O,M⟩:=nJ (ab:=ab) ⟨hl,λr hr=>(g r hr).c⟩ aa ho;exact av rfl (ax (aG [.tup ab,.int aa,.lst ((bw (ao ab aa)).map aV),.int G,.int day] (bR rfl (bR rfl (aD (aG [.tup ab,.int aa] rfl O) (bR rfl (bR rfl rfl))))) (o7 g hl aa M hn hr day)))
end
noncomputable def kY:LS:=[("paper" : Str),"like","copy"]
noncomputable def fB (w:Str):Bs->D
 | (some o,n)=>.tup [.str "office",.str o,.int n]
 | (none,n)=>.tup [.str w,.int n]
def Dr (r:D):Str:=if kindOf r = "copy" then ("copy" : Str)else ("leave" : Str)
def Ds (b:Bs):fB ("leave" : Str) b=zp b:=by rcases b with⟨_|o,n⟩<;>rfl
def yT (w:Str)(b:Bs):bx (fB w b)=true:=by rcases b with⟨_|o,n⟩<;>rfl
def Dt {ab:LD}{n:Nat}(h:ab.length<=n)(aa:Int):c8 [.tup ab,.int aa,.int n]=sO false:=by
 refine av rfl (ax (dB (p:=false) (q:=false) (b1:=false) ?_ λz=>by cases z));have h1:¬(n:Int)<ab.length:=by omega
 exact(yn (p:=true) (q:=false) (x:=.int 0) (y:=.int n) (z:=.int ab.length) (b1:=false) (b2:=false) (b3:=false) (b4:=false) rfl rfl (by simp) (by simp) λ_=>by simp[h1])
def FW {ab:LD}{i:Nat}{r:D}(hr:ab[i]? = some r)(g:bZ r)(aa:Int):c8 [.tup ab,.int aa,.int i]=sO (decide (aU r<=aa)):=by
 obtain⟨a,k,aE,rfl,d⟩:=g;exact kF hr aa
def BW {ab:LD}{i:Nat}{r:D}(hr:ab[i]? = some r)(g:bZ r){ρ:DL.Env}{j:Nat}(h0:ρ[0]? = some (sT ab))(hj:ρ[j]? = some (sI i)):fA aM (af (f2 bB (ai 0) (ai j)) aj) ρ=sS (kindOf r) :=
 aG [r] (bR (bo (.tup ab) (.int i) (by simp[h0]) (by simp[hj]) (by simp[c9 hr])) rfl) (iW g.c)
def yU {ab:LD}{i:Nat}{r:D}(hr:ab[i]? = some r)(g:bZ r)(aa:Int):fz [.tup ab,.int aa,.int i]=sO (decide (aU r<=aa) && decide (kindOf r∈kY)) :=
 av rfl (ax (dB (aG [.tup ab,.int aa,.int i] rfl (FW hr g aa)) λ_=>bo (.str (kindOf r)) (.tup (kY.map .str)) (BW hr g rfl rfl) rfl (js _ _)))
def yV {ab:LD}{i:Nat}{r:D}(hr:ab[i]? = some r)(g:bZ r)(aa:Int):dU [.tup ab,.int aa,.int i]=sO (decide (aU r<=aa) && decide (kindOf r∈bM)):=by
 refine(av rfl (ax (qw (aG [.tup ab,.int aa,.int i] rfl (lS hr g)) λ_=>aG [.tup ab,.int aa,.int i] rfl (yU hr g aa)))).trans ?_;congr 3;unfold mR;simp only[bM,kY,mem_cons,not_mem_nil,or_false];by_cases h1:aU r<=aa
 ·simp[h1]
 ·simp[h1]
def uj (ab:LD)(aa:Int)(r:D)(G n:Nat):Bool:=match ab[n]? with
 |none=>false
 |some q=>(decide (aU q<=aa) && decide (kindOf q∈kY)) && c6 (q,n) (r,G)
def rM (g:bZ r)(h:kindOf r = "copy"):∃a d b,∃n:Nat,r=row a ("copy" : Str) [.int d,.str b,.int n]:=by
 obtain⟨a,k,aE,rfl,d⟩:=g;have hk:k = "copy":=h;clear h;cases d with
 |copy k G d b n=>subst hk;exact⟨a,d,b,n,rfl⟩
 |root=>exact cS hk
 |named=>exact cS hk
 |chosen=>exact cS hk
 |heir=>exact cS hk
 |three k G=>rcases G with rfl|rfl|rfl<;>exact cS hk
 |leave=>exact cS hk
 |paper k G=>rcases G with rfl|rfl<;>exact cS hk
def rN (h:kindOf r∈kY):bi r=false:=by
 have:∀k∈kY,decide (k = "root")=false:=by decide +kernel
 exact this _ h
def Du {ab:LD}(g:∀r∈ab,bZ r)(aa:Int){G:Nat}{r:D}(hr:ab[G]? = some r)(O:kindOf r = "copy"):∃n:Nat,gL 2 r=n/\jA [.tup ab,.int aa,.int G]=lT ((if uj ab aa r G n=true then [((none,(n:Int)):Bs)]else []).map (fB ("copy" : Str))):=by
 have T:=g r (vL hr);obtain⟨a,d,b,n,er⟩:=rM T O;have nr:bi r=false:=rN (by rw[O];decide +kernel);have po:au [r,.str "of"]=sI n:=by rw[er];exact b9 (i:=2) dh rfl
 refine⟨n,by rw[er];rfl,?_⟩;let E:DL.Env:=[sT ab,sI aa,sI G,sI n];refine av rfl (fF (.int n) (aG [r,.str "of"] (bR (bo (.tup ab) (.int G) rfl rfl (by simp[c9 hr])) rfl) po) rfl ?_);have M:fG (bj (fA fz (fV 0 (fV 1 (fV 3 aj))))) (bj (fA gh (fV 0 (fV 3 (fV 2 aj))))) E=some (uj ab aa r G n):=by
  unfold uj;cases hq:ab[n]? with
  |none=>
   have hn:ab.length<=n:=List.getElem?_eq_none_iff.mp hq;exact fN (p:=false) (q:=false) (cI (aG [.tup ab,.int aa,.int n] rfl (av rfl (ax (dB (p:=false) (q:=false) (aG [.tup ab,.int aa,.int n] rfl (Dt hn aa)) λz=>by cases z))))) λz=>by cases z
  |some q=>
   have U:=g q (vL hq);exact fN (cI (aG [.tup ab,.int aa,.int n] rfl (yU hq U aa))) λh=>by
    rw[vC]at h;exact cI (aG [.tup ab,.int n,.int G] rfl (yN hq hr U T (rN (OH h.2)) nr))
 cases hv:uj ab aa r G n with
 |true=>
  rw[hv]at M;rw[if_pos rfl];exact bq M (ax (aG [.tup [.str "copy",.int n]] (bR (aG [.str "copy",.int n] rfl (c7 _ (by simp))) rfl) (gk _ (by simp))))
 |false=>
  rw[hv]at M;rw[if_neg (by decide)];exact a9 M (ax (aG [] rfl (gk _ (by simp))))
def rO (ab:LD)(aa:Int)(cs:List Cl)(x:D×Nat):List Bs:=if kindOf x.1 = "copy" then (if uj ab aa x.1 x.2 (gL 2 x.1).toNat=true then [(none,gL 2 x.1)]else [])else IP (ao ab aa) cs x.1 x.2
section
variable {ab:LD}(g:∀r∈ab,bZ r) (hl:ab.length<=30) (aa:Int) (hn:((bN (ao ab aa)).map (az 0)).Nodup)
include g hl hn
theorem BX (cs:List Cl)(O:cs.length<=60){M:Nat}{r:D}(hr:ab[M]? = some r)(T:kindOf r∈bM)(hk:aU r<=aa):dW [.tup ab,.int aa,.lst (cs.map aV),.int M]=lT ((rO ab aa cs (r,M)).map (fB (Dr r))):=by
 have U:=g r (vL hr);unfold rO Dr;by_cases G:kindOf r = "copy"
 ·rw[if_pos G,if_pos G];obtain⟨n,e1,e2⟩:=Du g aa hr G;rw[e1,toNat_natCast];refine av rfl (a9 (bI (p:=true) (cI (aG [.tup ab,.int aa,.int M] rfl ((yV hr U aa).trans (by rw[sv hk,sv T];rfl))))) (bq (bS (a:=kindOf r) (bb:=false) (BW hr U rfl rfl) (sv G)) (ax (aG [.tup ab,.int aa,.int M] rfl e2))))
 ·rw[if_neg G,if_neg G];have kb:kindOf r∈eY:=by
   have:∀k∈bM,k ≠ "copy"->k∈eY:=by decide +kernel
   exact this _ T G
  rw[show fB ("leave" : Str)=zp from funext Ds];exact yR g hl aa hn cs O hr kb hk
end
def Ml (e:f (fE ρ)=some (d,b))(k:h (ρ.set i (some (d,false)))=r):ay (xh i f) h ρ=r:=cz (ρ':=ρ.set i (some (d,false))) (by simp only[xh,e,map_some]) k
def BY (e:ρ[i]? = some (some (.dk ks vs,b))):je i ρ=some (.rt (.dk ks vs) false):=by simp[je,e]
noncomputable def kN (x:D×Nat):eC:=.inl (x.2:Int)
def yW (ab:LD)(aa day:Int)(x:D×Nat):Bool:=(iV ab aa x.1 && decide (aF x.1<=day)) && (iX ab aa x.2 x.1 day).isEmpty
def IS {α:Type}(l:List α)(f:α->D):decide ((((l.map f).length:Nat):Int)=0)=l.isEmpty:=by
 cases l with
 |nil=>rfl
 |cons a l=>rw[uY,vE];exact MO (by omega)
noncomputable def lU (ab:LD)(aa day:Int)(l:KL):KL:=l.filter λx=>decide (kindOf x.1∈bM) && yW ab aa day x
section
variable {ab:LD}(g:∀r∈ab,bZ r) (hl:ab.length<=30) (aa:Int) (hn:((bN (ao ab aa)).map (az 0)).Nodup)
include g hl hn
theorem Mm (M:(bw (ao ab aa)).length<=60){G:Nat}{r:D}(hr:ab[G]? = some r)(U:kindOf r∈bM)(day:Int):mE [.tup ab,.int aa,.lst ((bw (ao ab aa)).map aV),.int G,.int day]=sO (yW ab aa day (r,G)):=by
 have gr:=g r (vL hr);have nr:bi r=false:=by
  have:∀k∈bM,decide (k = "root")=false:=by decide +kernel
  exact this _ U
 let E:DL.Env:=[sT ab,sI aa,sL ((bw (ao ab aa)).map aV),sI G,sI day];have t1:bj (fA fy (fV 0 (fV 1 (fV 3 aj)))) E=some (iV ab aa r):=cI (aG [.tup ab,.int aa,.int G] rfl (mI ab (λr hr=>(g r hr).c.rp) (by omega) aa hr));have t2:bj (f2 AF (fA aS (af (f2 bB (ai 0) (ai 3)) aj)) (ai 4)) E=some (decide (day<aF r)):=cI (bo (.int (aF r)) (.int day) (aG [r] (bR (bo (.tup ab) (.int G) rfl rfl (by simp[c9 hr])) rfl) (rJ gr nr)) rfl rfl);have O:=bV (bI t1) λ_=>t2;have e:(!iV ab aa r || decide (day<aF r)) = !(iV ab aa r && decide (aF r<=day)):=by
  rw[Bool.not_and];congr 1;rw[←decide_not];congr 1;rw[Int.not_le]
 rw[e]at O;unfold yW;cases T:(iV ab aa r && decide (aF r<=day)) with
 |false=>
  rw[T]at O;exact av rfl (bq O (ax rfl))
 |true=>
  rw[T]at O;refine av rfl (a9 O (ax ?_));rw[Bool.true_and,←IS (iX ab aa G r day) λn:Nat=>.int n];exact bo (.int (((iX ab aa G r day).map λn:Nat=>D.int n).length:Nat)) (.int 0) (aG [.lst ((iX ab aa G r day).map λn:Nat=>.int n)] (aD (aG [.tup ab,.int aa,.lst ((bw (ao ab aa)).map aV),.int G,.int day] rfl (o7 g (by omega) aa M hn hr day)) rfl) rfl) rfl (by simp)
theorem yX (ho:(cB (ao ab aa)).length<=60)(day:Int):jD [.tup ab,.int aa,.int day]=sF (.dk ((lU ab aa day (cB (ao ab aa))).map kN) ((lU ab aa day (cB (ao ab aa))).map λx=>.lst ((rO ab aa (bw (ao ab aa)) x).map (fB (Dr x.1))))):=by
 have gC:gE ab:=⟨by omega,λr hr=>(g r hr).c⟩;obtain⟨ec,M⟩:=nJ (ab:=ab) gC aa ho;have eL:dR [.tup ab,.int aa]=lT ((cB (ao ab aa)).map λx=>.int x.2):=o3 gC aa;generalize T:bw (ao ab aa)=cs at ec M ⊢;have G:∀x∈cB (ao ab aa),x∈ao ab aa:=λx hx=>(vN ((b7 _ _).mem_iff.mp hx)).1;have U:((cB (ao ab aa)).map (·.2)).Nodup:=kX (eF ab aa);generalize cB (ao ab aa)=O at ho eL G U ⊢;let vD:D×Nat->D:=λx=>.lst ((rO ab aa cs x).map (fB (Dr x.1)));let E:KL->OB->DL.Env:=λL v5=>[sT ab,sI aa,sI day,sL (cs.map aV),some (.dk (L.map kN) (L.map vD),true),v5];obtain⟨ρ',e,v5,rfl⟩:=eW (tg:=cC 5) (g:=yu) (λj ρ=>∃v5,ρ=E (lU ab aa day (O.take j)) v5) (O.map λx=>.int x.2) (E [] none) ⟨none,rfl⟩ (by
  rintro j d ρ hd ⟨v5,rfl⟩;rw[vA]at hd;obtain⟨x,hx,rfl⟩:=oY hd;have Qb:=G x (vL hx);have hr:=b8 Qb;have Ps:aU x.1<=aa:=OH (vN Qb).2;have gx:=g x.1 (vL hr);have et:O.take (j+1)=O.take j++[x]:=by rw[take_add_one,hx];rfl
  have ef:lU ab aa day (O.take (j+1))=lU ab aa day (O.take j)++if(decide (kindOf x.1∈bM) && yW ab aa day x)=true then [x]else []:=by
   unfold lU;rw[et,filter_append,filter_cons];split<;>rfl
  have Uo:x.2∉(lU ab aa day (O.take j)).map (·.2):=by
   have h2:((O.take (j+1)).map (·.2)).Nodup:=List.Nodup.sublist (List.Sublist.map _ (take_sublist _ _)) U;rw[et,uW,nodup_append]at h2;intro hm;obtain⟨y,hy,ey⟩:=vO hm;exact h2.2.2 _ (uS ⟨y,(vN hy).1,rfl⟩) _ (by simp) ey
  have Xi:(lU ab aa day (O.take j)).length<=60:=vR (vM _ _) (vR (List.length_take_le' _ _) ho);generalize lU ab aa day (O.take j)=L at ef Uo Xi;let F:DL.Env:=E L (sI x.2);have t1:bj (fA dU (fV 0 (fV 1 (fV 5 aj)))) F=some (decide (kindOf x.1∈bM)):=cI (aG [.tup ab,.int aa,.int x.2] rfl ((yV hr gx aa).trans (by rw[sv Ps,Bool.true_and])));have tt:=fN t1 λh=>cI (f:=fA mE (fV 0 (fV 1 (fV 3 (fV 5 (fV 2 aj)))))) (aG [.tup ab,.int aa,.lst (cs.map aV),.int x.2,.int day] rfl (by rw[←T];exact Mm g hl aa hn (by rw[T];exact M) hr (OH h) day));refine⟨F,E (L++if(decide (kindOf x.1∈bM) && yW ab aa day x)=true then [x]else []) (sI x.2),rfl,.inl (O3 tt (λh=>?_) λh=>?_),sI x.2,by rw[ef]⟩
  ·rw[if_pos h];have kb:kindOf x.1∈bM:=by rw[vC]at h;exact OH h.1
   have Sm:qr 4 (ai 5) (fA dW (fV 0 (fV 1 (fV 3 (fV 5 aj))))) F=some (.nx (F.set 4 (some (.dk (dG (L.map kN) (kN x)) (dH (L.map kN) (L.map vD) (kN x) (vD x)),true)))):=by
    have ev:fA dW (fV 0 (fV 1 (fV 3 (fV 5 aj)))) (fE F)=some (vD x,true):=aG [.tup ab,.int aa,.lst (cs.map aV),.int x.2] rfl (BX g hl aa hn cs M hr kb Ps);show((fA dW _ (fE F)).bind _)=_;rw[ev];simp only[vJ];exact if_pos (c:=(L.map kN).length<sizeLine) (bD (by rw[vI];omega))
   rw[Sm];have hk:kN x∉L.map kN:=λhm=>by
    obtain⟨y,hy,ey⟩:=vO hm;exact Uo (uS ⟨y,hy,by have:=Sum.inl.inj (show(Sum.inl (y.2:Int):eC)=Sum.inl (x.2:Int)from ey);omega⟩)
   unfold dG dH;rw[if_neg hk,if_neg hk];simp[F,E]
  ·rw[h,if_neg (by decide),uQ];rfl)
 rw[vI,take_length]at e;exact av rfl (Ml (aG [.tup ab,.int aa] rfl ec) (cz (ρ':=E [] none) rfl (cz (iF (ds:=O.map λx=>.int x.2) (by show(fA dR _ _).bind _=_;rw[aG [.tup ab,.int aa] rfl eL];rfl) e) (BY (b:=true) rfl))))
end
noncomputable def nK (n:Nat):eC:=.inl (n:Int)
noncomputable def o8:Nat->D:=λ_=>.bl true
noncomputable def dr (S:LN)(b:Bs):Bool:=b.1.isSome || S.any λn=>decide ((n:Int)=b.2)
noncomputable def fQ (S:LN)(p:Nat×List Bs):LN:=if p.2.any (dr S)=true then S++[p.1]else S
noncomputable def ir (l:List (Nat×List Bs)):LN:=l.foldl fQ []
theorem rP (n:Int):∀S:LN,(bO (S.map nK) (S.map o8) (.inl n)).isSome=S.any λm=>decide ((m:Int)=n)
 |[]=>rfl
 |m::S=>by
  rw[uY,uY,bO,any_cons];by_cases h:(m:Int)=n
  ·rw[if_pos (show nK m=.inl n by unfold nK;rw[h]),sv h];rfl
  ·rw[if_neg (show ¬nK m=.inl n from λz=>h (Sum.inl.inj z)),MO h,rP n S];rfl
def yY (hw:decide (w=("office" : Str))=false)(S:LN)(b:Bs):jE [fB w b,.dk (S.map nK) (S.map o8)]=sO (dr S b):=by
 unfold dr;rcases b with⟨_|o,n⟩
 ·refine av rfl (ax (qw (p:=false) (b1:=false) (bo (.str w) (.str "office") rfl rfl (by simp[of_decide_eq_false hw])) λ_=>bo (.int n) (.dk (S.map nK) (S.map o8)) rfl rfl ?_));show some (D.bl (bO (S.map nK) (S.map o8) (.inl n)).isSome,false)=_;rw[rP]
 ·exact av rfl (ax (qw (p:=true) (q:=S.any λm=>decide ((m:Int)=n)) (b1:=false) (bo (.str "office") (.str "office") rfl rfl (by simp)) λh=>by cases h))
def any_map {α:Type}(l:List α)(f:α->Bool):Et [.lst (l.map λx=>.bl (f x))]=sO (l.any f):=by
 show(pH _).map _=_;rw[qx,map_some,List.any_map];rfl
def FX (h:m∈fQ S p):m∈S∨m=p.1:=by
 unfold fQ at h;split at h
 ·simpa using h
 ·exact .inl h
theorem nN:∀(l:List (Nat×List Bs))(S:LN)(m:Nat),m∈l.foldl fQ S->m∈S∨m∈l.map (·.1)
 |[],_,_,h=>.inl h
 |p::l,S,m,h=>by
  rcases nN l _ m h with h|h
  ·rcases FX h with h|rfl
   ·exact .inl h
   ·exact .inr (by simp)
  ·exact .inr (mZ _ h)
abbrev Rs:=Nat×Str×List Bs
noncomputable def lx (p:Rs):D:=.lst (p.2.2.map (fB p.2.1))
noncomputable def Ax (p:Rs):Nat×List Bs:=(p.1,p.2.2)
def yZ (l:List Rs)(hl:l.length<=60)(hw:∀p∈l,decide (p.2.1 = "office")=false)(hb:∀p∈l,p.2.2.length<=100)(hn:(l.map (·.1)).Nodup):kT [.dk (l.map λp=>nK p.1) (l.map lx)]=sF (.dk ((ir (l.map Ax)).map nK) ((ir (l.map Ax)).map o8)):=by
 let E:LN->OB->OB->DL.Env:=λS G M=>[sF (.dk (l.map λp=>nK p.1) (l.map lx)),some (.dk (S.map nK) (S.map o8),true),G,M];have zr:lH (l.map λp=>nK p.1) (l.map lx)=l.map λp=>.tup [.int (p.1:Int),lx p]:=by
  unfold lH;rw[zip_map',uP];rfl
 obtain⟨ρ',e,G,M,rfl⟩:=eW (tg:=JP [2,3]) (g:=yv) (λj ρ=>∃G M,ρ=E (ir ((l.take j).map Ax)) G M) (l.map λp=>.tup [.int (p.1:Int),lx p]) (E [] none none) ⟨none,none,rfl⟩ (by
  rintro j d ρ hd ⟨G,M,rfl⟩;rw[vA]at hd;obtain⟨p,hp,rfl⟩:=oY hd;have O:=vL hp;have et:l.take (j+1)=l.take j++[p]:=by rw[take_add_one,hp];rfl
  have es:ir ((l.take (j+1)).map Ax)=fQ (ir ((l.take j).map Ax)) (Ax p):=by
   rw[et,uW];unfold ir;rw[foldl_append];rfl
  have T:p.1∉ir ((l.take j).map Ax):=λhm=>by
   have h2:((l.take (j+1)).map (·.1)).Nodup:=List.Nodup.sublist (List.Sublist.map _ (take_sublist _ _)) hn;rw[et,uW,nodup_append]at h2;rcases nN _ _ _ hm with h|h
   ·cases h
   ·rw[uP]at h;exact h2.2.2 _ h _ (by simp) rfl
  have PU:(ir ((l.take j).map Ax)).length<=60:=by
   have:∀(q:List (Nat×List Bs))(S:LN),(q.foldl fQ S).length<=S.length+q.length:=λq=>by
    induction q with
    |nil=>intro S;exact vT _
    |cons a q ih=>
     intro S;refine vR (ih _) ?_;unfold fQ;split
     ·rw[uZ,vE,length_nil,vE];omega
     ·rw[vE];omega
   have h3:=this ((l.take j).map Ax) [];rw[vI,length_take,length_nil]at h3;exact vR h3 (by omega)
  generalize ir ((l.take j).map Ax)=S at es T PU;let F:DL.Env:=E S (sI (p.1:Int)) (some (lx p,false));have hc:=km (fi:=bP (ai 3)) (nT:=1) (cap:=[1]) (tg:=cC 0) (fe:=fA jE (fV 0 (fV 1 aj))) (ρ:=F) p.2.2 (fB p.2.1) (λb=>.bl (dr S b)) rfl (by have:=hb p O;omega) λb _=>⟨[some (fB p.2.1 b,false),sF (.dk (S.map nK) (S.map o8))],rfl,false,aG [fB p.2.1 b,.dk (S.map nK) (S.map o8)] rfl (yY (hw p O) S b)⟩;have t1:bj (fA Et (af (bK (bP (ai 3)) 1 [1] (cC 0) fH (fA jE (fV 0 (fV 1 aj)))) aj)) F=some (p.2.2.any (dr S)):=cI (aG [.lst (p.2.2.map λb=>.bl (dr S b))] (aD hc rfl) (any_map _ _));refine⟨F,E (fQ S (Ax p)) (sI (p.1:Int)) (some (lx p,false)),rfl,.inl (O3 t1 (λh=>?_) λh=>?_),_,_,by rw[es]⟩
  ·have hk:nK p.1∉S.map nK:=λhm=>by
    obtain⟨y,hy,ey⟩:=vO hm;have:=Sum.inl.inj (show(Sum.inl (y:Int):eC)=Sum.inl (p.1:Int)from ey);exact T (by rw[show p.1=y by omega];exact hy)
   have U:yf 1 (ai 2) (fC (.bl true)) F=some (.nx (F.set 1 (some (.dk (dG (S.map nK) (nK p.1)) (dH (S.map nK) (S.map o8) (nK p.1) (.bl true)),true)))):=if_pos (c:=bx (.bl true)=true/\(S.map nK).length<sizeLine) ⟨rfl,bD (by rw[vI];omega)⟩;rw[U];unfold dG dH fQ;rw[if_neg hk,if_neg hk,if_pos (show(Ax p).2.any (dr S)=true from h)];simp[F,E,Ax,o8]
  ·unfold fQ;rw[if_neg (show ¬(Ax p).2.any (dr S)=true by show ¬p.2.2.any (dr S)=true;rw[h];decide)];rfl)
 rw[vI,take_length]at e;exact av rfl (cz (ρ':=E [] none none) rfl (cz (iF (ds:=l.map λp=>.tup [.int (p.1:Int),lx p]) (by show some (lH _ _)=_;rw[zr]) e) (BY (b:=true) rfl)))
theorem ul:∀S:LN,tQ (S.map nK)=some (S.map λ(n:Nat)=>(n:Int))
 |[]=>rfl
 |n::S=>by
  show(tQ (S.map nK)).map _=_;rw[ul S];rfl
theorem za {α G:Type}(g:α->G)(f:G->LI)(x:α):∀l:List α,nv f (g x) (l.map g)=(nv (λa=>f (g a)) x l).map g
 |[]=>rfl
 |y::r=>by
  rw[uY,nv,nv];split
  ·rw[uY,za g f x r]
  ·rfl
theorem um {α G:Type}(g:α->G)(f:G->LI):∀l:List α,eI f (l.map g)=(eI (λa=>f (g a)) l).map g
 |[]=>rfl
 |x::l=>by
  show nv f (g x) (eI f (l.map g))=(nv (λa=>f (g a)) x (eI (λa=>f (g a)) l)).map g;rw[um g f l,za]
def fD (ab:LD)(aa:Int)(x:D×Nat):List Bs:=rO ab aa (bw (ao ab aa)) x
def cr (ab:LD)(aa day:Int):LN:=ir ((lU ab aa day (cB (ao ab aa))).map λx=>(x.2,fD ab aa x))
def FY (S:LN):LD:=(pW (S.map λ(n:Nat)=>(n:Int))).map .int
def wH (r:D):decide (Dr r = "office")=false:=by
 unfold Dr;split
 ·decide +kernel
 ·decide +kernel
section
variable {ab:LD}(g:∀r∈ab,bZ r) (hl:ab.length<=30) (aa:Int) (hn:((bN (ao ab aa)).map (az 0)).Nodup) (ho:(cB (ao ab aa)).length<=60)
include hl
theorem mS (x:D×Nat):(fD ab aa x).length<=60:=by
 unfold fD rO;split
 ·split
  ·exact(by decide:1<=60)
  ·exact uN _
 ·unfold IP;rw[(b7 _ _).length_eq];exact BV hl aa _ _ _
theorem uo (day:Int):(cr ab aa day).length<=60:=by
 have:∀(q:List (Nat×List Bs))(S:LN),(q.foldl fQ S).length<=S.length+q.length:=λq=>by
  induction q with
  |nil=>intro S;exact vT _
  |cons a q G=>
   intro S;refine vR (G _) ?_;unfold fQ;split
   ·rw[uZ,vE,length_nil,vE];omega
   ·rw[vE];omega
 have h3:=this ((lU ab aa day (cB (ao ab aa))).map λx=>(x.2,fD ab aa x)) [];have h4:(cB (ao ab aa)).length<=30:=by
  unfold cB;rw[(b7 _ _).length_eq];exact vR (vM _ _) (vR (cw ab aa) hl)
 have h5:(lU ab aa day (cB (ao ab aa))).length<=30:=vR (vM _ _) h4;rw[vI,length_nil]at h3;exact vR h3 (by omega)
include g hn ho
theorem zb (day:Int):lL [.tup ab,.int aa,.int day]=lT (FY (cr ab aa day)):=by
 have G:=yX g hl aa hn ho day;have h4:(lU ab aa day (cB (ao ab aa))).length<=60:=vR (vM _ _) ho;have es:=yZ ((lU ab aa day (cB (ao ab aa))).map λx=>(x.2,Dr x.1,fD ab aa x)) (by rw[vI];exact h4)
  (λp hp=>by obtain⟨x,_,rfl⟩:=vO hp;exact wH _) (λp hp=>by obtain⟨x,_,rfl⟩:=vO hp;exact vR (mS hl aa x) (by decide))
  (by rw[uP];exact List.Nodup.sublist (List.Sublist.map _ filter_sublist) (kX (eF ab aa)))
 rw[uP,uP,uP]at es;refine av rfl (ax (aG [_] (aD (aG [_] (aD (aG [.tup ab,.int aa,.int day] rfl G) rfl) es) rfl) ?_));show(tQ ((cr ab aa day).map nK)).bind _=_;rw[ul,vJ,if_pos (by rw[vI];have:=uo hl aa day;omega)];rfl
end
def IT (n:Nat)(S:LN):(S.any λm=>decide ((m:Int)=(n:Int)))=decide (n∈S):=by
 rw[Bool.eq_iff_iff,any_eq_true,decide_eq_true_iff];constructor
 ·rintro⟨m,h,e⟩;have:=OH e;rw[show n=m by omega];exact h
 ·exact λh=>⟨n,h,sv rfl⟩
def FZ (n:Nat)(S:LN):(bO (S.map nK) (S.map o8) (.inl (n:Int))).isSome=decide (n∈S):=by rw[rP,IT]
def Ga (ab:LD)(aa:Int):bN (ao ab aa)=ab.filter λv=>bi v && decide (aU v<=aa):=by
 unfold bN ao;rw[filter_filter];have:∀(l:List (D×Nat))(q:D->Bool),(l.filter λx=>q x.1).map (·.1)=(l.map (·.1)).filter q:=λl q=>by rw[List.filter_map];rfl
 refine(this ab.zipIdx λv=>bi v && decide (aU v<=aa)).trans ?_;rw[List.zipIdx_map_fst]
def Gb (ab:LD)(aa:Int):((bN (ao ab aa)).map (az 0)).Sublist (kI ab):=by
 rw[Ga];unfold kI;refine List.Sublist.map _ ?_;have:(ab.filter λv=>bi v && decide (aU v<=aa))=(ab.filter bi).filter λv=>decide (aU v<=aa):=by rw[filter_filter];congr 1;funext v;rw[Bool.and_comm]
 rw[this];exact filter_sublist
def zc (S:LN):LN:=eI (λn:Nat=>[(n:Int)]) S
def IU (S:LN):FY S=(zc S).map λ(n:Nat)=>.int (n:Int):=by
 unfold FY pW zc;rw[um,uP];rfl
def Dv {m:Nat}{S:LN}:m∈zc S↔m∈S:=(b7 _ _).mem_iff
def eZ (ab:LD)(aa day:Int):List Rs:=(lU ab aa day (cB (ao ab aa))).map λx=>(x.2,Dr x.1,fD ab aa x)
section
variable {ab:LD}(g:∀r∈ab,bZ r) (hl:ab.length<=30) (aa:Int) (hn:((bN (ao ab aa)).map (az 0)).Nodup) (ho:(cB (ao ab aa)).length<=60)
theorem nO (day:Int):((eZ ab aa day).map (·.1)).Nodup:=by
 unfold eZ;rw[uP];exact List.Nodup.sublist (List.Sublist.map _ filter_sublist) (kX (eF ab aa))
theorem Kh (day:Int):∀p∈eZ ab aa day,decide (p.2.1 = "office")=false:=λp hp=>by obtain⟨x,_,rfl⟩:=vO hp;exact wH _
include ho in
theorem IV (day:Int):(eZ ab aa day).length<=60:=by unfold eZ;rw[vI];exact vR (vM _ _) ho
include hl in
theorem Ki (day:Int):∀p∈eZ ab aa day,p.2.2.length<=100:=λp hp=>by obtain⟨x,_,rfl⟩:=vO hp;exact vR (mS hl aa x) (by decide)
include g hl hn ho
end
def o9 (ab:LD)(aa:Int)(n:Nat):List Bs:=match ab[n]? with
 |some r=>fD ab aa (r,n)
 |none=>[]
inductive Lk (S:List Nat)(rs:Nat->List Bs):List Nat->Int->Prop
 |one (n:Nat) (b:Bs) (l:List Bs) (hS:n∈S) (h:(rs n).filter (dr S)=b::l) (ho:b.1.isSome=true):Lk S rs [n] b.2
 |more (n m:Nat) (ns:List Nat) (c:Int) (b:Bs) (l:List Bs) (hS:n∈S) (h:(rs n).filter (dr S)=b::l) (ho:b.1=none) (hm:b.2=(m:Int)) (k:Lk S rs (m::ns) c):Lk S rs (n::m::ns) c
def Gc (K:KL){x y:D×Nat}(hy:y∈K)(h:c6 y x=true):(K.filter λz=>c6 z y).length<(K.filter λz=>c6 z x).length:=by
 have G:∀z∈K,c6 z y=true->c6 z x=true:=λz _ hz=>by
  unfold c6 at *;simp only[decide_eq_true_eq]at *;omega
 have e:K.filter (λz=>c6 z y)=(K.filter λz=>c6 z x).filter λz=>c6 z y:=by
  rw[filter_filter];refine List.filter_congr λz hz=>?_;cases k:c6 z y with
  |false=>rfl
  |true=>rw[G z hz k];rfl
 rw[e];refine Nat.lt_of_le_of_ne (vM _ _) λz=>?_;have hm:y∈(K.filter λz=>c6 z x):=mem_filter.mpr ⟨hy,h⟩;have:=List.length_filter_eq_length_iff.mp z y hm;unfold c6 at this;simp at this
section
variable {ab:LD}{aa:Int}
def Gd {day:Int}{n:Nat}(h:n∈cr ab aa day):∃r,ab[n]? = some r/\(r,n)∈ao ab aa/\kindOf r∈bM/\(n,Dr r,fD ab aa (r,n))∈eZ ab aa day:=by
 rcases nN _ _ _ h with z|z
 ·cases z
 ·obtain⟨p,hp,rfl⟩:=vO z;obtain⟨x,hx,rfl⟩:=vO hp;obtain⟨h1,h2⟩:=vN hx;rw[vC]at h2;have hk:=(vN ((b7 _ _).mem_iff.mp h1)).1;exact⟨x.1,b8 hk,hk,OH h2.1,uS ⟨x,hx,rfl⟩⟩
def Ge {S T:LN}(h:∀m∈S,m∈T)(b:Bs)(k:dr S b=true):dr T b=true:=by
 unfold dr at k ⊢;rw[or_eq_true,any_eq_true]at k ⊢;exact k.imp id λ⟨n,hn,e⟩=>⟨n,h n hn,e⟩
def BZ (h:m∈S):m∈fQ S p:=by
 unfold fQ;split
 ·exact mem_append_left _ h
 ·exact h
theorem Ca:∀(q:List (Nat×List Bs))(S:LN),m∈S->m∈q.foldl fQ S
 |[],_,h=>h
 |_::q,_,h=>Ca q _ (BZ h)
theorem rQ:∀(l:List (Nat×List Bs))(S:LN)(n:Nat),n∈l.foldl fQ S->n∈S∨∃p∈l,p.1=n/\p.2.any (dr (l.foldl fQ S))=true
 |[],S,n,h=>.inl h
 |p::l,S,n,h=>by
  rw[foldl_cons]at h ⊢;rcases rQ l (fQ S p) n h with z|⟨G,hp,e,k⟩
  ·by_cases hs:n∈S
   ·exact .inl hs
   ·unfold fQ at z;split at z
    ·rename_i hb;rcases mem_append.mp z with q|q
     ·exact absurd q hs
     ·obtain⟨b,h1,h2⟩:=any_eq_true.mp hb;exact .inr ⟨p,mX,(uT q).symm,any_eq_true.mpr ⟨b,h1,Ge (λm hm=>Ca l _ (BZ hm)) b h2⟩⟩
    ·exact absurd z hs
  ·exact .inr ⟨G,mZ _ hp,e,k⟩
def Ay {r:D}{n:Nat}(g:∀r∈ab,bZ r)(hr:ab[n]? = some r){b:Bs}(hb:b∈fD ab aa (r,n))(e:b.1=none):∃(m:Nat)(q:D),b.2=(m:Int)/\ab[m]? = some q/\(q,m)∈ao ab aa/\c6 (q,m) (r,n)=true:=by
 unfold fD rO at hb;split at hb
 ·rename_i G;obtain⟨a,d,M,m,er⟩:=rM (g _ (vL hr)) G;have en:gL 2 r=m:=by rw[er];rfl
  simp only[en,toNat_natCast]at hb;split at hb
  ·rename_i hv;rw[mem_singleton]at hb;subst hb;unfold uj at hv;split at hv
   ·cases hv
   ·rename_i q hq;rw[vC,vC]at hv;refine⟨m,q,rfl,hq,mem_filter.mpr ⟨List.mk_mem_zipIdx_iff_getElem?.mpr hq,hv.1.1⟩,hv.2⟩
  ·cases hb
 ·unfold IP at hb;have hb:=(b7 _ _).mem_iff.mp hb;unfold wG at hb;rcases mem_append.mp hb with z|z
  ·obtain⟨v,_,rfl⟩:=vO z;cases e
  ·obtain⟨y,hy,rfl⟩:=vO z;obtain⟨h1,h2⟩:=vN hy;unfold yO at h2;rw[vC]at h2;exact⟨y.2,y.1,rfl,(yP g h1).1,(vN (vN h1).1).1,h2.1⟩
def Gf {day:Int}{n:Nat}{r:D}(hr:ab[n]? = some r)(hn:n∈cr ab aa day):∃b l,(fD ab aa (r,n)).filter (dr (cr ab aa day))=b::l:=by
 rcases rQ _ _ _ hn with z|⟨p,hp,e,hb⟩
 ·cases z
 ·obtain⟨x,hx,rfl⟩:=vO hp;have hx':=b8 (vN ((b7 _ _).mem_iff.mp (vN hx).1)).1;have G:x.2=n:=e;rw[G,hr]at hx';have ex:x=(r,n):=by rw[←G,vK hx']
  subst ex;obtain⟨b,h1,h2⟩:=any_eq_true.mp hb;have hm:b∈(fD ab aa (r,n)).filter (dr (cr ab aa day)):=mem_filter.mpr ⟨h1,h2⟩;cases hq:(fD ab aa (r,n)).filter (dr (cr ab aa day)) with
  |nil=>rw[hq]at hm;cases hm
  |cons b l=>exact⟨b,l,rfl⟩
def Gg (g:∀r∈ab,bZ r)(day:Int):∀(k n:Nat)(r:D),ab[n]? = some r->n∈cr ab aa day->((ao ab aa).filter λz=>c6 z (r,n)).length<k->∃ns c,Lk (cr ab aa day) (o9 ab aa) (n::ns) c/\ns.length<k:=by
 intro k;induction k with
 |zero=>intro n r hr hn hk;omega
 |succ k ih=>
  intro n r hr hn hk;obtain⟨b,l,hq⟩:=Gf hr hn;have er:o9 ab aa n=fD ab aa (r,n):=by unfold o9;rw[hr]
  have hm:b∈(fD ab aa (r,n)).filter (dr (cr ab aa day)):=by rw[hq];exact mX
  obtain⟨h1,h2⟩:=vN hm;cases G:b.1 with
  |some o=>exact⟨[],b.2,.one n b l hn (by rw[er];exact hq) (by rw[G];rfl),Nat.succ_pos _⟩
  |none=>
   obtain⟨m,q,T,e2,h3,h4⟩:=Ay g hr h1 G;have M:m∈cr ab aa day:=by
    unfold dr at h2;rw[G]at h2;obtain⟨m',O,e3⟩:=any_eq_true.mp (by simpa using h2:(cr ab aa day).any (λn=>decide ((n:Int)=b.2))=true);have:=OH e3;rw[T]at this;rw[show m=m' by omega];exact O
   have:=Gc _ h3 h4;obtain⟨ns,c,hl,U⟩:=ih m q e2 M (by omega);exact⟨m::ns,c,.more n m ns c b l hn (by rw[er];exact hq) G T hl,by rw[vE];omega⟩
end
def pf (w:Str)(b:Bs):bB (fB w b) (.int 0)=sS (if b.1.isSome=true then "office" else w):=by rcases b with⟨_|o,n⟩<;>simp[fB,BA]
def Gh (w:Str)(b:Bs):bB (fB w b) (.int (-1))=sI b.2:=by rcases b with⟨_|o,n⟩<;>rfl
def Gi (hw:decide (w=("office" : Str))=false)(R:List Bs)(hR:R.length<=100)(S:LN){b:Bs}{l:List Bs}(h:R.filter (dr S)=b::l):da [.lst (R.map (fB w)),.dk (S.map nK) (S.map o8)]=sF (fB w b):=by
 have hc:=g9 (fi:=bP (ai 0)) (nT:=1) (cap:=[1]) (tg:=cC 0) (c:=bj (fA jE (fV 0 (fV 1 aj)))) (fe:=ai 0) (ρ:=[sL (R.map (fB w)),sF (.dk (S.map nK) (S.map o8))]) R (fB w) (dr S) (fB w) rfl (by omega) λb _=>⟨[some (fB w b,false),sF (.dk (S.map nK) (S.map o8))],rfl,cI (aG [fB w b,.dk (S.map nK) (S.map o8)] rfl (yY hw S b)),λ_=>⟨false,rfl⟩⟩;rw[h]at hc;exact av rfl (ax (fW (x:=.lst ((b::l).map (fB w))) (y:=.int 0) (b1:=true) (b2:=false) hc rfl (by simp[BA])))
theorem rR:∀(l:List Rs),(l.map (·.1)).Nodup->∀p∈l,bO (l.map λp=>nK p.1) (l.map lx) (nK p.1)=some (lx p)
 |q::l,h,p,hp=>by
  rw[uY,nodup_cons]at h;show(if nK q.1=nK p.1 then some (lx q)else bO _ _ _)=_;rcases vP hp with rfl|hp
  ·rw[if_pos rfl]
  ·rw[if_neg λe=>?_,rR l h.2 p hp];have z:q.1=p.1:=by
    have:=Sum.inl.inj (show(Sum.inl _:eC)=Sum.inl _ from e);omega
   exact h.1 (uS ⟨p,hp,z.symm⟩)
def Lk.first {S:LN}{rs:Nat->List Bs}(h:Lk S rs (n::ns) c):n∈S/\∃b l,(rs n).filter (dr S)=b::l:=by
 cases h with
 |one _ b l hS h _=>exact⟨hS,b,l,h⟩
 |more _ _ _ _ b l hS h _ _ _=>exact⟨hS,b,l,h⟩
section
variable {ab:LD}{aa day:Int}{l:List Rs}{S:LN}{rs:Nat->List Bs}(n0:Nat)
abbrev cE (ab:LD)(aa day:Int)(l:List Rs)(S:LN)(n0:Nat)(told:LD)(b:D):DL.Env:=[sT ab,sI aa,sI day,sI n0,sF (.dk (l.map λp=>nK p.1) (l.map lx)),sF (.dk (S.map nK) (S.map o8)),lT told,some (b,false)]
def QQ (l:List Rs)(S:LN)(rs:Nat->List Bs):Prop:=∀n∈S,∃w,decide (w=("office" : Str))=false/\bO (l.map λp=>nK p.1) (l.map lx) (nK n)=some (.lst ((rs n).map (fB w)))/\(rs n).length<=100
theorem Cb (F:QQ l S rs){m:Nat}(hm:m∈S){b:Bs}{tl:List Bs}(h:(rs m).filter (dr S)=b::tl){ρ:DL.Env}{f:FE}(h4:ρ[4]? = some (sF (.dk (l.map λp=>nK p.1) (l.map lx))))(h5:ρ[5]? = some (sF (.dk (S.map nK) (S.map o8))))(hf:f ρ=sI (m:Int)):
  ∃w,decide (w=("office" : Str))=false/\fA da (af (f2 D5 (ai 4) f) (fV 5 aj)) ρ=sF (fB w b):=by
 obtain⟨w,hw,hl,hz⟩:=F m hm;refine⟨w,hw,aG [.lst ((rs m).map (fB w)),.dk (S.map nK) (S.map o8)] (aD (b:=false) (bo (.dk (l.map λp=>nK p.1) (l.map lx)) (.int (m:Int)) (by simp[h4]) hf ?_) (by simp[h5])) (Gi hw _ hz S h)⟩;show(bO (l.map λp=>nK p.1) (l.map lx) (nK m)).map _=_;rw[hl];rfl
theorem Dw (F:QQ l S rs){T:LN}{c:Int}(k:Lk S rs T c):∀(n:Nat)(ns:LN),T=n::ns->∀(pre:LD)(w:Str)(b:Bs)(tl:List Bs)(fuel:Nat),pre.length+ns.length<=1000->decide (w=("office" : Str))=false->(rs n).filter (dr S)=b::tl->ns.length<fuel ->
  ∃M b',fY (bj (f2 uL (cH 7 0) (fS "office"))) k7 fuel (cE ab aa day l S n0 (pre++[.int n]) (fB w b))=some (.nx (cE ab aa day l S n0 (pre++(n::ns).map λ(m:Nat)=>.int (m:Int)) (fB M b')))/\b'.1.isSome=true/\b'.2=c:=by
 have cond:∀(told:LD)(w:Str)(b:Bs),decide (w=("office" : Str))=false->bj (f2 uL (cH 7 0) (fS "office")) (cE ab aa day l S n0 told (fB w b))=some (!b.1.isSome):=λtold w b hw=>by
  refine(Aw (a:=if b.1.isSome=true then "office" else w) (b:="office") (bb:=false) (bo (fB w b) (.int 0) rfl rfl (pf w b))).trans ?_;cases b.1.isSome with
  |true=>simp
  |false=>rw[if_neg (by decide),hw]
 induction k with
 |one n G l0 hS h ho=>
  rintro n' ns ⟨⟩ pre w b tl fuel hp hw hb hf;rw[h]at hb;obtain⟨rfl,rfl⟩:=List.cons.inj hb;obtain⟨fuel,rfl⟩:∃k,fuel=k+1:=⟨fuel - 1,by omega⟩;refine⟨w,G,?_,ho,rfl⟩;rw[fY,cond _ _ _ hw,ho];rfl
 |more n m ms c G l0 hS h ho hm k ih=>
  rintro n' ns ⟨⟩ pre w b tl fuel hp hw hb hf;rw[h]at hb;obtain⟨rfl,rfl⟩:=List.cons.inj hb;obtain⟨fuel,rfl⟩:∃k,fuel=k+1:=⟨fuel - 1,by omega⟩;obtain⟨O,b2,l2,h2⟩:=k.first;rw[vE]at hp hf;have e1:∀told,cH 7 1 (cE ab aa day l S n0 told (fB w G))=sI (m:Int):=λtold=>bo (fB w G) (.int 1) rfl rfl (by
   obtain⟨o,z⟩:=G;cases (show o=none from ho)
   cases (show z=(m:Int)from hm)
   simp[fB,BB])
  obtain⟨w2,U,e2⟩:=Cb F O h2 (ρ:=cE ab aa day l S n0 (pre++[.int n]++[.int (m:Int)]) (fB w G)) (f:=cH 7 1) rfl rfl (e1 _);obtain⟨M,b',e3,e4,e5⟩:=ih m ms rfl (pre++[.int n]) w2 b2 l2 fuel (by rw[uZ,length_singleton];omega) U h2 (by omega);refine⟨M,b',?_,e4,e5⟩;have eb:k7 (cE ab aa day l S n0 (pre++[.int n]) (fB w G))=some (.nx (cE ab aa day l S n0 (pre++[.int n]++[.int (m:Int)]) (fB w2 b2))):=Br (ds:=pre++[.int n]) (d:=.int (m:Int)) (b:=false) rfl (e1 _) rfl (bD (by rw[uZ,length_singleton];omega)) (m4 e2 (yT _ _));rw[fY,cond _ _ _ hw,ho];dsimp only[Option.isSome,Bool.not_false];rw[eb];dsimp only;rw[e3];simp
end
section
variable {ab:LD}(g:∀r∈ab,bZ r) (hl:ab.length<=30) (aa:Int) (hn:((bN (ao ab aa)).map (az 0)).Nodup) (ho:(cB (ao ab aa)).length<=60)
include hl in
theorem IW (day:Int):QQ (eZ ab aa day) (cr ab aa day) (o9 ab aa):=λn hm=>by
 obtain⟨r,hr,_,_,hp⟩:=Gd hm;have e:o9 ab aa n=fD ab aa (r,n):=by unfold o9;rw[hr]
 rw[e];exact⟨Dr r,wH r,rR _ (nO aa day) _ hp,vR (mS hl aa (r,n)) (by decide)⟩
include g hl hn ho
theorem uq (day:Int)(n:Nat):jD [.tup ab,.int aa,.int day]=sF (.dk ((eZ ab aa day).map λp=>nK p.1) ((eZ ab aa day).map lx))/\kT [.dk ((eZ ab aa day).map λp=>nK p.1) ((eZ ab aa day).map lx)]=sF (.dk ((cr ab aa day).map nK) ((cr ab aa day).map o8)):=by
 constructor
 ·rw[yX g hl aa hn ho day];unfold eZ;rw[uP,uP];rfl
 ·rw[yZ (eZ ab aa day) (IV aa ho day) (Kh aa day) (Ki hl aa day) (nO aa day)];have:ir ((eZ ab aa day).map Ax)=cr ab aa day:=by
   unfold eZ cr;rw[uP];rfl
  rw[this]
theorem Dx (day:Int){n:Nat}{ns:LN}{c:Int}(k:Lk (cr ab aa day) (o9 ab aa) (n::ns) c)(U:ns.length<=100):pb [.tup ab,.int aa,.int day,.int (n:Int)]=lT (((n::ns).map (λ(m:Nat)=>D.int (m:Int))++[D.int c]).reverse):=by
 obtain⟨e1,e2⟩:=uq g hl aa hn ho day n;obtain⟨hS,b,tl,hf⟩:=k.first;have F:=IW (ab:=ab) hl aa day;generalize eZ ab aa day=l at *;generalize cr ab aa day=S at *;obtain⟨w,hw,e3⟩:=Cb F hS hf (ρ:=[sT ab,sI aa,sI day,sI (n:Int),sF (.dk (l.map λp=>nK p.1) (l.map lx)),sF (.dk (S.map nK) (S.map o8)),lT [.int (n:Int)],none]) (f:=ai 3) rfl rfl rfl;obtain⟨T,b',e4,G,hc⟩:=Dw (ab:=ab) (aa:=aa) (day:=day) n F k n ns rfl [] w b tl 1000 (by simp;omega) hw hf (by omega);have M:cH 7 2 (cE ab aa day l S n ([]++(n::ns).map λ(m:Nat)=>D.int (m:Int)) (fB T b'))=sI c:=bo (fB T b') (.int 2) rfl rfl (by
  obtain⟨_|o,z⟩:=b'
  ·cases G
  ·cases (show z=c from hc)
   exact(DL.p5 (by decide) (by show 2<_;simp)).trans rfl)
 have O:f2 qh (ai 3) (ai 5) [sT ab,sI aa,sI day,sI (n:Int),sF (.dk (l.map λp=>nK p.1) (l.map lx)),sF (.dk (S.map nK) (S.map o8)),none,none]=sO false:=by
  refine bo (.int (n:Int)) (.dk (S.map nK) (S.map o8)) rfl rfl ?_;show some (D.bl (!(bO (S.map nK) (S.map o8) (.inl (n:Int))).isSome),false)=_;rw[FZ,sv hS];rfl
 have s4:(ay (fY (bj (f2 uL (cH 7 0) (fS "office"))) k7 1000) (ay (i6 6 (cH 7 2)) (aQ (f1 Ig (ai 6))))) (cE ab aa day l S n [.int (n:Int)] (fB w b))=some (.rt (.lst (((n::ns).map (λ(m:Nat)=>D.int (m:Int))++[D.int c]).reverse)) true) :=
  cz e4 (Br (ds:=[]++(n::ns).map λ(m:Nat)=>D.int (m:Int)) (d:=.int c) (b:=false) rfl M rfl (bD (by simp;omega)) (ax rfl))
 have s3:(ay (aK 6 (fA aX (fV 3 aj))) (ay (aK 7 (fA da (af (f2 D5 (ai 4) (ai 3)) (fV 5 aj)))) (ay (fY (bj (f2 uL (cH 7 0) (fS "office"))) k7 1000) (ay (i6 6 (cH 7 2)) (aQ (f1 Ig (ai 6))))))) [sT ab,sI aa,sI day,sI (n:Int),sF (.dk (l.map λp=>nK p.1) (l.map lx)),sF (.dk (S.map nK) (S.map o8)),none,none]=some (.rt (.lst (((n::ns).map (λ(m:Nat)=>D.int (m:Int))++[D.int c]).reverse)) true) :=
  cj (ds:=[.int (n:Int)]) (aG [.int (n:Int)] rfl (gk _ (by simp))) rfl (Fp e3 (yT _ _) s4)
 refine av rfl (Db (d:=.dk (l.map λp=>nK p.1) (l.map lx)) (b:=false) (aG [.tup ab,.int aa,.int day] rfl e1) (by simp[bx]) (.inl rfl) ?_);refine(show ay (aK 5 (fA kT (fV 4 aj))) _ [sT ab,sI aa,sI day,sI (n:Int),sF (.dk (l.map λp=>nK p.1) (l.map lx)),none,none,none]=_ from Db (d:=.dk (S.map nK) (S.map o8)) (b:=false) (aG [_] rfl e2) (by simp[bx]) (.inl rfl) ?_);exact a9 (ρ:=[sT ab,sI aa,sI day,sI (n:Int),sF (.dk (l.map λp=>nK p.1) (l.map lx)),sF (.dk (S.map nK) (S.map o8)),none,none]) (cI (x:=false) O) s3
end
def Gj (a:D)(l:LD):i7 (a::l) (some 1) none=l:=by
 unfold i7;rw[m6 (by decide)];show List.take ((a::l).length - _) _=_;simp
def OD (a:D)(l:LD):i7 (a::l) (some 2) none=l.drop 1:=by
 unfold i7;rw[m6 (by decide)];show List.take ((a::l).length - _) _=_;cases l with
 |nil=>rfl
 |cons b l=>simp
def wI (z:Int)(zs:LI):zl (.int z) (.lst (zs.map .int))=sO (zs.any λy=>decide (y=z)):=by
 have G:(zs.map D.int).all gy=true:=by
  rw[all_eq_true];intro d hd;obtain⟨m,_,rfl⟩:=vO hd;rfl
 have M:∀zs:LI,Gz (.int z) (zs.map .int)=zs.any λy=>decide (y=z):=λzs=>by
  induction zs with
  |nil=>rfl
  |cons y zs O=>
   show(cU (.int y) (.int z) || Gz (.int z) (zs.map .int))=_;rw[O,any_cons,cU]
 simp only[zl,jf,vJ];rw[if_pos ⟨rfl,G⟩,M]
def Gk (z:Int)(zs:LI):dA (.int z) (.lst (zs.map .int))=sO (!zs.any λy=>decide (y=z)):=by
 have h:=wI z zs;simp only[zl,dA,jf,vJ]at h ⊢;split at h
 ·rename_i q;rw[if_pos q];injection h with h;injection h with h _;injection h with h;rw[h]
 ·cases h
def OE {α:Type}(l:List α)(f:α->Bool):Es [.lst (l.map λx=>.bl (f x))]=sO (l.all f):=by
 show(pH _).map _=_;rw[qx f,map_some,all_map];rfl
def Mn (w:Str)(hw:decide (w=("office" : Str))=false)(R:List Bs)(hR:R.length<=100)(a:Int):jF [.lst (R.map (fB w)),.int a]=sO (R.any λb=>b.1.isSome && decide (b.2=a)):=by
 have hc:=g9 (fi:=bP (ai 0)) (nT:=1) (cap:=[]) (tg:=cC 0) (c:=bj (f2 dJ (cH 0 0) (fS "office"))) (fe:=cH 0 2) (ρ:=[sL (R.map (fB w)),sI a]) R (fB w) (λb=>b.1.isSome) (λb=>.int b.2) rfl (by omega) λx _=>by
  refine⟨[some (fB w x,false)],rfl,?_,λh=>⟨false,?_⟩⟩
  ·refine(bS (a:=if x.1.isSome=true then "office" else w) (b:="office") (bb:=false) (bo (fB w x) (.int 0) rfl rfl (pf _ x)) rfl).trans ?_;cases x.1.isSome with
   |true=>simp
   |false=>rw[if_neg (by decide),hw]
  ·obtain⟨_|o,z⟩:=x
   ·cases h
   ·exact bo (fB w (some o,z)) (.int 2) rfl rfl ((DL.p5 (by decide) (by show 2<_;simp)).trans rfl)
 refine av rfl (ax (fW (x:=.int a) (y:=.lst ((R.filter λb:Bs=>b.1.isSome).map λb:Bs=>D.int b.2)) (b1:=false) (b2:=true) rfl hc ?_));have:=wI a ((R.filter λb:Bs=>b.1.isSome).map λb=>b.2);rw[uP,List.any_map,List.any_filter]at this;exact this
def IX (w:Str)(hw:decide (w=("office" : Str))=false)(R:List Bs)(hR:R.length<=100)(a:Int):iJ [.lst (R.map (fB w)),.int a]=sO (R.any λb=>!b.1.isSome && decide (b.2=a)):=by
 have hc:=g9 (fi:=bP (ai 0)) (nT:=1) (cap:=[]) (tg:=cC 0) (c:=bj (f2 uL (cH 0 0) (fS "office"))) (fe:=cH 0 1) (ρ:=[sL (R.map (fB w)),sI a]) R (fB w) (λb=>!b.1.isSome) (λb=>.int b.2) rfl (by omega) λx _=>by
  refine⟨[some (fB w x,false)],rfl,?_,λh=>⟨false,?_⟩⟩
  ·refine(Aw (a:=if x.1.isSome=true then "office" else w) (b:="office") (bb:=false) (bo (fB w x) (.int 0) rfl rfl (pf _ x))).trans ?_;cases x.1.isSome with
   |true=>simp
   |false=>rw[if_neg (by decide),hw]
  ·obtain⟨_|o,z⟩:=x
   ·exact bo (fB w (none,z)) (.int 1) rfl rfl (by simp[fB,BB])
   ·cases h
 refine av rfl (ax (fW (x:=.int a) (y:=.lst ((R.filter λb:Bs=>!b.1.isSome).map λb:Bs=>D.int b.2)) (b1:=false) (b2:=true) rfl hc ?_));have:=wI a ((R.filter λb:Bs=>!b.1.isSome).map λb=>b.2);rw[uP,List.any_map,List.any_filter]at this;exact this
noncomputable def iu (l:List Rs)(z:Int):Bool:=l.any λp=>decide ((p.1:Int)=z)
theorem zd (z:Int):∀l:List Rs,(bO (l.map λp=>nK p.1) (l.map lx) (.inl z)).isSome=iu l z
 |[]=>rfl
 |p::l=>by
  unfold iu;rw[uY,uY,bO,any_cons];by_cases h:nK p.1=.inl z
  ·rw[if_pos h,sv (Sum.inl.inj h)];rfl
  ·rw[if_neg h,MO λe=>h (congrArg Sum.inl e),Bool.false_or];exact zd z l
def IY {l:List Rs}(nd:(l.map (·.1)).Nodup){z:Int}(h:iu l z=true):∃p∈l,(p.1:Int)=z/\bO (l.map λp=>nK p.1) (l.map lx) (.inl z)=some (lx p):=by
 obtain⟨p,hp,e⟩:=any_eq_true.mp h;have e:=OH e;refine⟨p,hp,e,?_⟩;rw[←e];exact rR l nd p hp
noncomputable def IZ (rs:Nat->List Bs)(a b:Int):Bool:=(rs b.toNat).any λx=>x.1.isSome && decide (x.2=a)
noncomputable def Ja (rs:Nat->List Bs)(a b:Int):Bool:=(rs b.toNat).any λx=>!x.1.isSome && decide (x.2=a)
def QR (l:List Rs)(rs:Nat->List Bs):LI->Bool
 |a::b::r=>(b::r).all (iu l) && (IZ rs a b && ((b::r).zip r).all λp=>Ja rs p.1 p.2)
 |_=>false
structure Hy (l:List Rs)(rs:Nat->List Bs):Prop where
 nd:(l.map (·.1)).Nodup
 hw:∀p∈l,decide (p.2.1=("office" : Str))=false
 hb:∀p∈l,p.2.2.length<=100
 hr:∀p∈l,p.2.2=rs p.1
def Hy.get (I:Hy l rs){z:Int}(h:iu l z=true):∃w,decide (w=("office" : Str))=false/\(rs z.toNat).length<=100/\D5 (.dk (l.map λp=>nK p.1) (l.map lx)) (.int z)=sL ((rs z.toNat).map (fB w)):=by
 obtain⟨p,hp,e,hl⟩:=IY I.nd h;have G:z.toNat=p.1:=by omega
 refine⟨p.2.1,I.hw p hp,by rw[G,←I.hr p hp];exact I.hb p hp,?_⟩;show(bO (l.map λp=>nK p.1) (l.map lx) (.inl z)).map _=_;rw[hl,G,←I.hr p hp];rfl
def Dy {ab:LD}{aa day:Int}{l:List Rs}{rs:Nat->List Bs}(F:jD [.tup ab,.int aa,.int day]=sF (.dk (l.map λp=>nK p.1) (l.map lx)))(I:Hy l rs)(zs:LI)(hz:zs.length<=1000):lM [.tup ab,.int aa,.int day,.lst (zs.map .int)]=sO (QR l rs zs):=by
 let A:D:=.dk (l.map λp=>nK p.1) (l.map lx);let E:DL.Env:=[sT ab,sI aa,sI day,sL (zs.map .int),sF A];have O:bj (f2 D3 (fA df (fV 3 aj)) (fI 2)) E=some (decide (zs.length<2)):=cI (bo (.int (zs.length:Nat)) (.int 2) (aG [.lst (zs.map .int)] rfl (by simp)) rfl (by
  show some (D.bl (decide ((zs.length:Int)<2)),false)=_;congr 3;exact decide_eq_decide.mpr (by omega)))
 refine av rfl (Db (d:=A) (b:=false) (aG [.tup ab,.int aa,.int day] rfl F) rfl (.inl rfl) ?_);show ay _ _ E=_;rcases zs with _|⟨a,_|⟨b,r⟩⟩
 ·exact bq (bV (p:=true) (q:=true) O (by simp)) (ax rfl)
 ·exact bq (bV (p:=true) (q:=true) O (by simp)) (ax rfl)
 ·have O:bj (f2 D3 (fA df (fV 3 aj)) (fI 2)) E=some false:=O.trans (by rw[MO (by simp)]);have c2:=km (fi:=bP (lC (ai 3) (cM (fI 1)) cY)) (nT:=1) (cap:=[4]) (tg:=cC 0) (fe:=f2 LQ (ai 0) (ai 1)) (ρ:=E) (b::r) .int (λz=>.bl (iu l z)) (by
    show some (i7 (.int a::(b::r).map .int) (some 1) none)=_;rw[Gj]) (by simp at hz ⊢;omega) λz _=>⟨[sI z,sF A],rfl,false,bo (.int z) A rfl rfl (by
     show some (D.bl (bO (l.map λp=>nK p.1) (l.map lx) (.inl z)).isSome,false)=_;rw[zd])⟩
  have U:bj (fA Es (af (bK (bP (lC (ai 3) (cM (fI 1)) cY)) 1 [4] (cC 0) fH (f2 LQ (ai 0) (ai 1))) aj)) E=some ((b::r).all (iu l)):=cI (aG [.lst ((b::r).map λz=>.bl (iu l z))] (aD c2 rfl) (OE _ _));show ay _ _ E=some (.rt (.bl ((b::r).all (iu l) && (IZ rs a b && ((b::r).zip r).all λp=>Ja rs p.1 p.2))) false);cases G:(b::r).all (iu l) with
  |false=>
   rw[G]at U;exact bq (bV (p:=false) (q:=true) O λ_=>bI U) (ax rfl)
  |true=>
   rw[G]at U;rw[Bool.true_and];have hf:∀z∈b::r,iu l z=true:=uR G;obtain⟨w,hw,M,hk⟩:=I.get (hf b mX);have t3:bj (fA jF (af (f2 D5 (ai 4) (cH 3 1)) (af (cH 3 0) aj))) E=some (IZ rs a b):=cI (aG [.lst ((rs b.toNat).map (fB w)),.int a] (bR (bo A (.int b) rfl (bo (.lst (.int a::.int b::r.map .int)) (.int 1) rfl rfl (by simp[BB])) hk) (bR (bo (.lst (.int a::.int b::r.map .int)) (.int 0) rfl rfl (by simp[BA])) rfl)) (Mn w hw _ M a));refine a9 (bV (p:=false) (q:=false) O λ_=>bI U) ?_;cases T:IZ rs a b with
   |false=>
    rw[T]at t3;exact bq (bI t3) (ax rfl)
   |true=>
    rw[T]at t3;rw[Bool.true_and];have c4:=km (fi:=Fj (lC (ai 3) (cM (fI 1)) cY) (lC (ai 3) (cM (fI 2)) cY)) (nT:=2) (cap:=[4]) (tg:=JP [0,1]) (fe:=fA iJ (af (f2 D5 (ai 2) (ai 1)) (fV 0 aj))) (ρ:=E) ((b::r).zip r) (λp=>.tup [.int p.1,.int p.2]) (λp=>.bl (Ja rs p.1 p.2)) (by
      show some (CA (i7 (.int a::(b::r).map .int) (some 1) none) (i7 (.int a::(b::r).map .int) (some 2) none))=_;rw[Gj,OD];unfold CA;show some (List.zipWith _ ((b::r).map D.int) (r.map D.int))=_;rw[List.zipWith_map,List.zip_eq_zipWith,List.map_zipWith]) (by rw[length_zip];simp at hz ⊢;omega) λp hp=>by
     obtain⟨w,hw,M,hk⟩:=I.get (hf p.2 (mZ _ (of_mem_zip hp).2));exact⟨[sI p.1,sI p.2,sF A],rfl,false,aG [.lst ((rs p.2.toNat).map (fB w)),.int p.1] (bR (bo A (.int p.2) rfl rfl hk) (bR rfl rfl)) (IX w hw _ M p.1)⟩
    exact a9 (bI t3) (ax (aG [.lst (((b::r).zip r).map λp=>.bl (Ja rs p.1 p.2))] (aD c4 rfl) (OE _ _)))
section
variable {ab:LD}(g:∀r∈ab,bZ r) (hl:ab.length<=30) (aa:Int) (hn:((bN (ao ab aa)).map (az 0)).Nodup) (ho:(cB (ao ab aa)).length<=60)
theorem ph {day:Int}{p:Rs}(h:p∈eZ ab aa day):∃r,ab[p.1]? = some r/\(r,p.1)∈ao ab aa/\bi r=false/\kindOf r∈bM/\yW ab aa day (r,p.1)=true/\p=(p.1,Dr r,fD ab aa (r,p.1)):=by
 obtain⟨x,hx,rfl⟩:=vO h;obtain⟨h1,h2⟩:=vN hx;rw[vC]at h2;obtain⟨hk,hr⟩:=vN ((b7 _ _).mem_iff.mp h1);exact⟨x.1,b8 hk,hk,by simpa using hr,OH h2.1,h2.2,rfl⟩
theorem Jb {day:Int}{n:Nat}{r:D}(hr:ab[n]? = some r):iu (eZ ab aa day) (n:Int)=(decide (aU r<=aa) && (decide (kindOf r∈bM) && yW ab aa day (r,n))):=by
 rw[Bool.eq_iff_iff];unfold iu;rw[any_eq_true,vC,vC];constructor
 ·rintro⟨p,hp,e⟩;have e:p.1=n:=by have:=OH e;omega
  obtain⟨M,h1,h2,_,h4,h5,_⟩:=ph aa hp;rw[e,hr]at h1;cases h1
  rw[e]at h5;exact⟨(vN h2).2,sv h4,h5⟩
 ·rintro⟨h1,h2,h3⟩;have G:bi r=false:=by
   have:∀k∈bM,decide (k = "root")=false:=by decide +kernel
   exact this _ (OH h2)
  refine⟨(n,Dr r,fD ab aa (r,n)),uS ⟨(r,n),mem_filter.mpr ⟨(b7 _ _).mem_iff.mpr (mem_filter.mpr ⟨mem_filter.mpr ⟨?_,h1⟩,by simp[G]⟩),by rw[h2,h3];rfl⟩,rfl⟩,sv rfl⟩;exact mem_iff_getElem?.mpr ⟨n,by rw[List.getElem?_zipIdx,hr];simp⟩
theorem Mo {day z:Int}(h:iu (eZ ab aa day) z=true):∃(n:Nat)(r:D),z=n/\ab[n]? = some r:=by
 obtain⟨p,hp,e⟩:=any_eq_true.mp h;obtain⟨r,h1,_⟩:=ph aa hp;exact⟨p.1,r,(OH e).symm,h1⟩
include hl in
theorem Jc (day:Int):Hy (eZ ab aa day) (o9 ab aa):=by
 refine⟨nO aa day,Kh aa day,Ki hl aa day,λp hp=>?_⟩;obtain⟨r,h1,_,_,_,_,e⟩:=ph aa hp;rw[e];show fD ab aa (r,p.1)=o9 ab aa p.1;unfold o9;rw[h1]
include g hl hn ho
theorem Jd (day z:Int):mG [.tup ab,.int aa,.int day,.int z]=sO (iu (eZ ab aa day) z):=by
 let E:DL.Env:=[sT ab,sI aa,sI day,sI z];have M:bj (j0 zk D3 (fI 0) (ai 3) (fA df (fV 0 aj))) E=some (decide (0<=z) && decide (z<ab.length)):=by
  by_cases h0:0<=z
  ·rw[sv h0,Bool.true_and];exact cI (by simp[E,h0])
  ·rw[MO h0,Bool.false_and];exact cI (by simp[E,h0])
 by_cases hz:0<=z/\z<ab.length
 ·obtain⟨n,rfl⟩:∃n:Nat,z=n:=⟨z.toNat,by omega⟩;have T:n<ab.length:=by omega
  obtain⟨r,hr⟩:∃r,ab[n]? = some r:=⟨_,vU T⟩;have gr:=g r (vL hr);rw[Jb aa hr];rw[sv hz.1,sv hz.2]at M;have eR:f2 bB (ai 0) (ai 3) E=sF r:=bo (.tup ab) (.int n) rfl rfl (by simp[c9 hr]);obtain⟨h,k,aE,er,dd⟩:=gr;have e0:bB r (.int 0)=sI (aU r):=by rw[er];simp[row,BA,aU]
  have U:bB r (.int 1)=sT (.str k::aE):=by rw[er];simp[row,BB]
  have ek:kindOf r=k:=by rw[er];rfl
  have t2:bj (f2 AF (f2 bB (f2 bB (ai 0) (ai 3)) (fI 0)) (ai 1)) E=some (decide (aa<aU r)):=cI (bo (.int (aU r)) (.int aa) (bo r (.int 0) eR rfl e0) rfl rfl);have O:bj (f2 dA (f2 bB (f2 bB (f2 bB (ai 0) (ai 3)) (fI 1)) (fI 0)) (fA aW (af (fS "leave") (af (fS "paper") (af (fS "like") (af (fS "copy") aj)))))) E=some (!decide (k∈bM)):=cI (bo (.str k) (.tup (bM.map .str)) (bo (.tup (.str k::aE)) (.int 0) (bo r (.int 1) eR rfl U) rfl (by simp[BA])) (by simp[sizeLine,bM]) (kE k bM));have h1:=bV (bI M) λ_=>t2;by_cases hk:aU r<=aa
  ·rw[sv hk,Bool.true_and];rw[MO (show ¬aa<aU r by omega)]at h1;refine av rfl (a9 h1 ?_);rw[ek];by_cases G:k∈bM
   ·rw[sv G]at O;rw[sv G,Bool.true_and];have nr:bi r=false:=by
     have:∀k∈bM,decide (k = "root")=false:=by decide +kernel
     unfold bi;rw[ek];exact this _ G
    obtain⟨d,q,eq⟩:=dd.cd.day (by intro e;rw[e]at G;exact absurd G (by decide +kernel));have ed:aF r=d:=by rw[er,eq];rfl
    have t4:bj (f2 AF (f2 bB (f2 bB (f2 bB (ai 0) (ai 3)) (fI 1)) (fI 1)) (ai 2)) E=some (decide (day<aF r)):=cI (bo (.int d) (.int day) (bo (.tup (.str k::aE)) (.int 1) (bo r (.int 1) eR rfl U) rfl (by rw[eq];simp[BB])) rfl (by rw[ed];rfl));have h2:=bV O λ_=>t4;unfold yW;by_cases hd:aF r<=day
    ·rw[MO (show ¬day<aF r by omega)]at h2;rw[sv hd,Bool.and_true];refine a9 h2 (ax (dB (b1:=false) (aG [.tup ab,.int aa,.int n] rfl (mI ab (λr hr=>(g r hr).c.rp) (by omega) aa hr)) λ_=>?_));refine fW (x:=.lst ((iX ab aa n r day).map λn:Nat=>.int n)) (y:=.lst []) (b1:=true) (b2:=true) (aG [.tup ab,.int aa,.int n,.int day] rfl (FV g (by omega) aa hn ho hr day)) rfl ?_;refine(if_pos ⟨?_,rfl⟩).trans (by cases iX ab aa n r day<;>simp)
     ·show((iX ab aa n r day).map λn:Nat=>D.int n).all (aO 39)=true;rw[all_map,all_eq_true];exact λ_ _=>rfl
    ·rw[sv (show day<aF r by omega)]at h2;rw[MO hd,Bool.and_false,Bool.false_and];exact bq h2 (ax rfl)
   ·rw[MO G]at O;rw[MO G,Bool.false_and];exact bq (bV (p:=true) (q:=true) O (by simp)) (ax rfl)
  ·rw[MO hk,Bool.false_and];rw[sv (show aa<aU r by omega)]at h1;exact av rfl (bq h1 (ax rfl))
 ·have hf:iu (eZ ab aa day) z=false:=by
   rw[eq_false_iff];intro h;obtain⟨n,r,rfl,hr⟩:=Mo aa h;have:=(vV hr).1;exact hz ⟨by omega,by omega⟩
  rw[hf];have:(decide (0<=z) && decide (z<ab.length))=false:=by
   rw[Bool.and_eq_false_iff];by_cases h0:0<=z
   ·exact .inr (MO λh=>hz ⟨h0,h⟩)
   ·exact .inl (MO h0)
  rw[this]at M;exact av rfl (bq (bV (p:=true) (q:=true) (bI M) (by simp)) (ax rfl))
theorem Mp {day:Int}{z:Int}(h:iu (eZ ab aa day) z=true):∃w,decide (w=("office" : Str))=false/\(o9 ab aa z.toNat).length<=100/\mF [.tup ab,.int aa,.int z]=lT ((o9 ab aa z.toNat).map (fB w)):=by
 obtain⟨p,hp,e⟩:=any_eq_true.mp h;have e:=OH e;obtain⟨r,hr,hh,_,O,_,ep⟩:=ph aa hp;have hk:aU r<=aa:=OH (vN hh).2;obtain⟨T,G⟩:=nJ (ab:=ab) ⟨by omega,λr hr=>(g r hr).c⟩ aa ho;have U:z.toNat=p.1:=by omega
 have M:o9 ab aa z.toNat=fD ab aa (r,p.1):=by unfold o9;rw[U,hr]
 refine⟨Dr r,wH r,by rw[M];exact vR (mS hl aa _) (by decide),?_⟩;rw[M,←e];exact av rfl (ax (aG [.tup ab,.int aa,.lst ((bw (ao ab aa)).map aV),.int p.1] (bR rfl (bR rfl (aD (aG [.tup ab,.int aa] rfl T) (bR rfl rfl)))) (BX g hl aa hn _ G hr O hk)))
end
def Gm {g h:FS}{ρ:DL.Env}{d:D}{b:Bool}(e:g ρ=some (.rt d b)):ay g h ρ=some (.rt d b):=by unfold ay;rw[e]
def pi {fi:FA}{ρ:DL.Env}{ds:LD}{tg:FG}{g:FS}{x:Option Res}(e:fi (fE ρ)=some ds)(k:gw tg g ds ρ=x):jz fi tg g ρ=x:=by unfold jz;rw[e];exact k
def ze {fi:FA}{ρ:DL.Env}{ds:LD}{tg:FG}{g:FS}{x:Option Res}(e:fi ρ=some ds)(k:gw tg g ds ρ=x):jK fi tg g ρ=x:=by unfold jK;rw[e];exact k
noncomputable def Kj (rs:Nat->List Bs)(a b:Int)(r:LI)(i:Nat):Bool:=(rs ((b::r).getD i 0).toNat).any λx=>(x.1.isSome == decide (i=0)) && decide (x.2=(a::b::r).getD i 0)
def Kk (rs:Nat->List Bs)(a b:Int)(r:LI):(∀i,i<r.length+1->Kj rs a b r i=true)↔(IZ rs a b && ((b::r).zip r).all λp=>Ja rs p.1 p.2)=true:=by
 have h0:Kj rs a b r 0=IZ rs a b:=by
  unfold Kj IZ;congr 1;funext x;rw[sv rfl];cases x.1.isSome<;>rfl
 have h1:∀i,Kj rs a b r (i+1)=Ja rs ((b::r).getD i 0) (r.getD i 0):=λi=>by
  unfold Kj Ja;congr 1;funext x;rw[MO (by omega)];cases x.1.isSome<;>rfl
 rw[vC,all_eq_true];have G:∀ {l:LI}{i:Nat}{z:Int},l[i]? = some z->l.getD i 0=z:=λh=>by rw[vF,h];rfl
 constructor
 ·intro h;refine⟨h0 ▸ h 0 (by omega),λp hp=>?_⟩;obtain⟨i,hi⟩:=mem_iff_getElem?.mp hp;obtain⟨M,e2⟩:=getElem?_zip_eq_some.mp hi;have:=h (i+1) (by have:=(vV e2).1;omega);rw[h1,G M,G e2]at this;exact this
 ·rintro⟨ha,hb⟩ i hi;cases i with
  |zero=>rw[h0];exact ha
  |succ i=>
   have hi:i<r.length:=by omega
   have e2:r[i]? = some r[i]:=vU hi;have O:i<(b::r).length:=by simp;omega
   have M:(b::r)[i]? = some (b::r)[i]:=vU O;rw[h1,G M,G e2];exact hb ((b::r)[i],r[i]) (mem_iff_getElem?.mpr ⟨i,getElem?_zip_eq_some.mpr ⟨M,e2⟩⟩)
section
variable {ab:LD}(g:∀r∈ab,bZ r) (hl:ab.length<=30) (aa:Int) (hn:((bN (ao ab aa)).map (az 0)).Nodup) (ho:(cB (ao ab aa)).length<=60)
include g hl hn ho
theorem Je (day:Int)(zs:LI)(hz:zs.length<=900):pe [.tup ab,.int aa,.int day,.lst (zs.map .int)]=sO (QR (eZ ab aa day) (o9 ab aa) zs):=by
 have U:bj (f2 D3 (fA df (fV 3 aj)) (fI 2)) [sT ab,sI aa,sI day,sL (zs.map .int),none,none,none,none]=some (decide (zs.length<2)):=cI (bo (.int (zs.length:Nat)) (.int 2) (aG [.lst (zs.map .int)] rfl (by simp)) rfl (by
  show some (D.bl (decide ((zs.length:Int)<2)),false)=_;congr 3;exact decide_eq_decide.mpr (by omega)))
 rcases zs with _|⟨a,_|⟨b,r⟩⟩
 ·exact av rfl (bq U (ax rfl))
 ·exact av rfl (bq U (ax rfl))
 ·have U:=U.trans (by rw[MO (by simp)]:_=some false);simp only[vE]at hz;let E:OB->OB->OB->OB->DL.Env:=λG v5 v6 v7=>[sT ab,sI aa,sI day,sL ((a::b::r).map .int),G,v5,v6,v7];have gd:∀ {l:LI}{i:Nat}{z:Int},l[i]? = some z->l.getD i 0=z:=λh=>by rw[vF,h];rfl
  have p2:=y7 (tg:=cC 4) (g:=y0) (d:=.bl false) (b:=false) (λ_ ρ=>∃G,ρ=E G none none none) (λi=>iu (eZ ab aa day) ((b::r).getD i 0)) ((b::r).map .int) (E none none none none) ⟨none,rfl⟩ (by
   rintro i d ρ hd ⟨G,rfl⟩;rw[vA]at hd;obtain⟨z,hz,rfl⟩:=oY hd;refine⟨E (sI z) none none none,rfl,?_⟩;have t:dC (bj (fA mG (fV 0 (fV 1 (fV 2 (fV 4 aj)))))) (E (sI z) none none none)=some (!iu (eZ ab aa day) z):=bI (cI (aG [.tup ab,.int aa,.int day,.int z] rfl (Jd g hl aa hn ho day z)));rw[gd hz];cases hf:iu (eZ ab aa day) z with
   |true=>rw[hf]at t;exact .inl ⟨rfl,_,kj t rfl,_,rfl⟩
   |false=>rw[hf]at t;exact .inr ⟨rfl,jP t (ax rfl)⟩)
  have i2:bP (lC (ai 3) (cM (fI 1)) cY) (fE (E none none none none))=some ((b::r).map .int):=by
   show some (i7 (.int a::(b::r).map .int) (some 1) none)=_;rw[Gj]
  show pe _=sO ((b::r).all (iu (eZ ab aa day)) && (IZ (o9 ab aa) a b && ((b::r).zip r).all λp=>Ja (o9 ab aa) p.1 p.2));rcases p2 with⟨hok,ρ',e2,G,rfl⟩|⟨⟨i,hi,O⟩,e2⟩
  ·have hf:∀z∈b::r,iu (eZ ab aa day) z=true:=λz hz=>by
    obtain⟨i,hi⟩:=mem_iff_getElem?.mp hz;have:=hok i (by rw[vI];exact(vV hi).1);rwa [gd hi]at this
   rw[all_eq_true.mpr hf,Bool.true_and];have p3:=y7 (tg:=cC 5) (g:=qT) (d:=.bl false) (b:=false) (λ_ ρ=>∃v5 v6 v7,ρ=E G v5 v6 v7) (Kj (o9 ab aa) a b r) (dP 1 (r.length+1)) (E G none none none) ⟨none,none,none,rfl⟩ (by
    rintro i d ρ hd ⟨v5,v6,v7,rfl⟩;unfold dP at hd;rw[vA]at hd;obtain⟨k,hk,rfl⟩:=oY hd;have Sj:=vV hk;obtain⟨hi,Uq⟩:=Sj;rw[length_range]at hi;rw[getElem_range]at Uq;subst Uq;have Rq:i<(b::r).length:=by simp;omega
    have e1:(b::r)[i]? = some (b::r)[i]:=vU Rq;obtain⟨w,hw,Qh,hB⟩:=Mp g hl aa hn ho (hf (b::r)[i] (getElem_mem _));rw[←gd e1]at Qh hB;let R:=o9 ab aa ((b::r).getD i 0).toNat;let q:Bs->Bool:=λx=>x.1.isSome == decide (i=0);let M:Nat->OB->DL.Env:=λj v7=>E G (sI (1+(i:Int))) (lT (((R.take j).filter q).map λb=>.int b.2)) v7;obtain⟨ρ2,Qi,T,rfl⟩:=eW (tg:=cC 7) (g:=y4) (λj ρ=>∃v7,ρ=M j v7) (R.map (fB w)) (M 0 v7) ⟨v7,rfl⟩ (by
     rintro j d ρ hd ⟨v7,rfl⟩;rw[vA]at hd;obtain⟨x,hx,rfl⟩:=oY hd;have WC:j<R.length:=(vV hx).1;have et:(R.take (j+1)).filter q=(R.take j).filter q++[x].filter q:=by rw[take_add_one,hx,toList_some,filter_append]
     have cd:bj (f2 dJ (f2 dJ (cH 7 0) (fS "office")) (f2 dJ (ai 5) (fI 1))) (M j (sF (fB w x)))=some (q x):=by
      refine cI (bo (.bl x.1.isSome) (.bl (decide (i=0))) (bo (.str (if x.1.isSome=true then "office" else w)) (.str "office") (bo (fB w x) (.int 0) rfl rfl (pf _ x)) rfl ?_) (bo (.int (1+(i:Int))) (.int 1) rfl rfl ?_) (by simp[q]))
      ·cases x.1.isSome with
       |true=>simp
       |false=>rw[if_neg (by decide)];simpa using hw
      ·simp only[dJ,aO,cU,and_self,if_true];congr 3;exact decide_eq_decide.mpr (by omega)
     refine⟨M j (sF (fB w x)),M (j+1) (sF (fB w x)),rfl,.inl ?_,_,rfl⟩;cases hq:q x with
     |false=>
      rw[hq]at cd;refine(kj cd rfl).trans ?_;show some (Res.nx (M j _))=some (Res.nx (E G _ (lT (((R.take (j+1)).filter q).map λb=>.int b.2)) _));rw[et,filter_cons_of_neg (by rw[hq];decide),List.filter_nil,uQ]
     |true=>
      rw[hq]at cd;refine(jP cd (iR (ds:=((R.take j).filter q).map λb=>.int b.2) (d:=.int x.2) (b:=false) rfl (bo (fB w x) (.int (-1)) rfl rfl (Gh w x)) rfl (bD (by rw[vI];have:=vM q (R.take j);rw[length_take]at this;have:R.length<=100:=Qh;omega)))).trans ?_;show _=some (Res.nx (E G _ (lT (((R.take (j+1)).filter q).map λb=>.int b.2)) _));rw[et,filter_cons_of_pos (by rw[hq]),List.filter_nil,uW];rfl)
    rw[vI,show M R.length T=E G (sI (1+(i:Int))) (lT ((R.filter q).map λb=>.int b.2)) T by show E _ _ (lT (((R.take R.length).filter q).map _)) _=_;rw[take_of_length_le (vT _)]]at Qi;have ix:∀(k:Nat),k<r.length+2->bB (.lst ((a::b::r).map .int)) (.int (k:Int))=sI ((a::b::r).getD k 0):=λk hk=>by
     have:=wu (xs:=a::b::r) (i:=(k:Int)) (by omega) (by simp;omega);rwa [toNat_natCast]at this
    have e8:f2 bB (ai 3) (ai 5) (fE (E G (sI (1+(i:Int))) (lT []) v7))=sI ((b::r).getD i 0):=bo (.lst ((a::b::r).map .int)) (.int (1+(i:Int))) rfl rfl (by
     rw[show(1:Int)+i=((i+1:Nat):Int) by omega];exact ix (i+1) (by omega))
    have i8:bP (fA mF (fV 0 (fV 1 (af (f2 bB (ai 3) (ai 5)) aj)))) (fE (E G (sI (1+(i:Int))) (lT []) v7))=some (R.map (fB w)):=by
     show(fA mF _ _).bind _=_;rw[aG [.tup ab,.int aa,.int ((b::r).getD i 0)] (bR rfl (bR rfl (bR e8 rfl))) hB];rfl
    have t9:bj (f2 dA (f2 bB (ai 3) (f2 l8 (ai 5) (fI 1))) (ai 6)) (E G (sI (1+(i:Int))) (lT ((R.filter q).map λb=>.int b.2)) T)=some (!Kj (o9 ab aa) a b r i):=by
     refine cI (bo (.int ((a::b::r).getD i 0)) (.lst ((R.filter q).map λb=>.int b.2)) (bo (.lst ((a::b::r).map .int)) (.int (i:Int)) rfl (bo (.int (1+(i:Int))) (.int 1) rfl rfl (by
      show some (D.int (1+(i:Int) - 1),false)=_;congr 3;omega)) (ix i (by omega))) rfl ?_)
     have:=Gk ((a::b::r).getD i 0) ((R.filter q).map λb=>b.2);rw[uP,List.any_map,List.any_filter]at this;exact this
    refine⟨E G (sI (1+(i:Int))) v6 v7,rfl,?_⟩;have run:∀rr,dI (bj (f2 dA (f2 bB (ai 3) (f2 l8 (ai 5) (fI 1))) (ai 6))) (aQ (fC (.bl false))) bg (E G (sI (1+(i:Int))) (lT ((R.filter q).map λb=>.int b.2)) T)=rr->qT (E G (sI (1+(i:Int))) v6 v7)=rr:=λrr h=>cj (ds:=[]) rfl rfl (cz (pi i8 Qi) h);cases hk:Kj (o9 ab aa) a b r i with
    |true=>rw[hk]at t9;exact .inl ⟨rfl,_,run _ (kj t9 rfl),_,_,_,rfl⟩
    |false=>rw[hk]at t9;exact .inr ⟨rfl,run _ (jP t9 (ax rfl))⟩)
   have Sl:(dP 1 (r.length+1)).length=r.length+1:=by unfold dP;rw[vI,length_range]
   have i3:wg (fI 1) (fA df (fV 3 aj)) (E G none none none)=some (dP 1 (r.length+1)):=by
    show(if _ then _ else _)=_;rw[if_pos (by simp;omega)];congr 2;simp
   rw[Sl]at p3;rcases p3 with⟨Sn,ρ3,e3,_⟩|⟨⟨i,hi,O⟩,e3⟩
   ·rw[(Kk (o9 ab aa) a b r).mp Sn];exact av rfl (a9 U (cz (pi i2 e2) (cz (ze i3 e3) (ax rfl))))
   ·have hc:(IZ (o9 ab aa) a b && ((b::r).zip r).all λp=>Ja (o9 ab aa) p.1 p.2)=false:=by
     rw[eq_false_iff];intro h;have:=(Kk (o9 ab aa) a b r).mpr h i hi;rw[O]at this;cases this
    rw[hc];exact av rfl (a9 U (cz (pi i2 e2) (Gm (ze i3 e3))))
  ·have hc:(b::r).all (iu (eZ ab aa day))=false:=by
    rw[eq_false_iff];intro h;rw[vI]at hi;have:=uR h (b::r)[i] (getElem_mem _);rw[gd (vU hi)]at O;rw[O]at this;cases this
   rw[hc,Bool.false_and];exact av rfl (a9 U (Gm (pi i2 e2)))
end
noncomputable def lz (z:LI):D:=.lst (z.map .int)
def Jf (z:LI)(a:Nat):i7 (z.map .int) none (some (a:Int))=(z.take a).map .int:=by
 unfold i7;rw[m6 (by omega)];show((z.map D.int).drop 0).take (min (a:Int).toNat (z.map D.int).length - 0)=_;rw[List.drop_zero,Nat.sub_zero,toNat_natCast,←List.take_eq_take_min,List.map_take]
def Jg (z:LI)(a:Nat)(h:a<=z.length):i7 (z.map .int) (some (a:Int)) none=(z.drop a).map .int:=by
 unfold i7;rw[m6 (by omega),toNat_natCast,Nat.min_eq_left (by rw[vI];exact h)];show((z.map D.int).drop a).take ((z.map D.int).length - a)=_;rw[take_of_length_le (by rw[length_drop];omega),List.map_drop]
def wJ {f:FE}{ρ:DL.Env}{z:LI}{b:Bool}{h:FO}{a:Nat}(e:f ρ=some (lz z,b))(G:h ρ=some (some (a:Int))):lC f cY h ρ=some (lz (z.take a),true):=by
 unfold lC;rw[e,vJ];show(some none).bind _=_;rw[vJ,G,vJ];show some (D.lst (i7 (z.map .int) none (some (a:Int))),true)=_;rw[Jf];rfl
def rS {f:FE}{ρ:DL.Env}{z:LI}{b:Bool}{h:FO}{a:Nat}(ha:a<=z.length)(e:f ρ=some (lz z,b))(G:h ρ=some (some (a:Int))):lC f h cY ρ=some (lz (z.drop a),true):=by
 unfold lC;rw[e,vJ,G,vJ];show(some none).bind _=_;rw[vJ];show some (D.lst (i7 (z.map .int) (some (a:Int)) none),true)=_;rw[Jg z a ha];rfl
def sr {f h:FE}{ρ:DL.Env}{x y:LI}{b c:Bool}(e:f ρ=some (lz x,b))(e2:h ρ=some (lz y,c))(hl:x.length+y.length<=1000):f2 be f h ρ=some (lz (x++y),true):=by
 refine fW e e2 ?_;show(if _ then some (D.lst (x.map D.int++y.map D.int),true)else none)=_;rw[if_pos (cZ (by rw[vI,vI];omega)),←uW];rfl
def Gn {f:FE}{ρ:DL.Env}{m:Int}(e:f ρ=sI m):fA aX (af f aj) ρ=some (lz [m],true):=aG [.int m] (bR e rfl) (gk _ (by simp))
def Jh {f h:FE}{ρ:DL.Env}{x y:LI}{b c:Bool}(e:f ρ=some (lz x,b))(e2:h ρ=some (lz y,c)):fA aX (af f (af h aj)) ρ=some (.lst ([x,y].map lz),true):=aG [lz x,lz y] (aD e (aD e2 rfl)) (gk _ (by simp))
def Mq {f h:FE}{ρ:DL.Env}{X Y:List LI}{b c:Bool}(e:f ρ=some (.lst (X.map lz),b))(e2:h ρ=some (.lst (Y.map lz),c))(hl:X.length+Y.length<=1000):f2 be f h ρ=some (.lst ((X++Y).map lz),true):=by
 refine fW e e2 ?_;show(if _ then some (D.lst (X.map lz++Y.map lz),true)else none)=_;rw[if_pos (cZ (by rw[vI,vI];omega)),←uW]
def UJ {L:List LI}{i:Int}(h1:0<=i)(h2:i<L.length):∃z∈L,bB (.lst (L.map lz)) (.int i)=some (lz z,false):=by
 have h:i.toNat<L.length:=by omega
 refine⟨L[i.toNat],getElem_mem h,?_⟩;rw[DL.wt h1 (by rw[vI];exact h),vF,vA,vU h];rfl
def kZ (z:LI):bH (z.map D.int)=true:=ce λd hd=>by obtain⟨c,_,rfl⟩:=vO hd;rfl
def Ji (c:Int)(z:LI)(hz:0<z.length)(hl:z.length<=300)(G:Nat):∃y,k8 [.int c,lz z,.int G]=some (lz y,false)/\y.length<=900:=by
 have hm:=mod_lt (x:=c / 8) (m:=z.length) (by omega);obtain⟨a,ha⟩:∃a:Nat,c / 8 % z.length=a:=⟨(c / 8 % z.length).toNat,by omega⟩;have MY:a<z.length:=by omega
 obtain⟨m,Ur⟩:∃m:Int,c / 64 % (G+4) - 2=m:=⟨_,rfl⟩;let P (v3 v4 v5 v6 v7:OB):DL.Env:=[sI c,sF (lz z),sI G,v3,v4,v5,v6,v7];obtain⟨lo,Us⟩:∃lo,z.take a=lo:=⟨_,rfl⟩;obtain⟨M,Ut⟩:∃M,z.drop a=M:=⟨_,rfl⟩;have Vu:lo.length<=300:=by rw[←Us,length_take];omega
 have Uu:M.length<=300/\1<=M.length:=by rw[←Ut,length_drop];omega
 let T:=[lo++M.drop 1,lo++[m]++M];let L2:=[lo++M.take 1++M,lo++[m]++M.drop 1];let L3:=[z.reverse,[m]++z.drop 1];let L4:=[z++[m],z];have m8:=mod_lt (x:=c) (m:=8) (by decide);obtain⟨y,hy,ey⟩:=UJ (L:=T++L2++L3++L4) (i:=c % 8) m8.1 m8.2;refine⟨y,?_,?_⟩
 ·have o1:∀(ρ:DL.Env),cM (fI 1) ρ=some (some ((1:Nat):Int)):=λ_=>rfl;let A:=P (sI a) (sI m) (lT (lo.map .int)) (lT (M.map .int)) none;let B (v7:OB):=P (sI a) (sI m) (sF (lz lo)) (sF (lz M)) v7;have hA:∀(ρ:DL.Env),(ρ=A∨∃v7,ρ=B v7)->ai 1 ρ=some (lz z,false)/\ai 4 ρ=sI m/\ai 5 ρ=some (lz lo,false)/\ai 6 ρ=some (lz M,false):=λρ h=>by
   rcases h with rfl|⟨v7,rfl⟩<;>exact⟨rfl,rfl,rfl,rfl⟩
  have Xk:fA aX (af (f2 be (ai 5) (lC (ai 6) (cM (fI 1)) cY)) (af (f2 be (f2 be (ai 5) (fA aX (fV 4 aj))) (ai 6)) aj)) A=some (.lst (T.map lz),true):=by
   obtain⟨U,q4,q5,O⟩:=hA A (.inl rfl);exact Jh (sr q5 (rS Uu.2 O (o1 _)) (by rw[length_drop];omega)) (sr (sr q5 (Gn q4) (by simp;omega)) O (by simp;omega))
  have Xl:∀v7,fA aX (af (f2 be (f2 be (ai 5) (lC (ai 6) cY (cM (fI 1)))) (ai 6)) (af (f2 be (f2 be (ai 5) (fA aX (fV 4 aj))) (lC (ai 6) (cM (fI 1)) cY)) aj)) (B v7)=some (.lst (L2.map lz),true):=λv7=>by
   obtain⟨U,q4,q5,O⟩:=hA (B v7) (.inr ⟨v7,rfl⟩);exact Jh (sr (sr q5 (wJ O (o1 _)) (by rw[length_take];omega)) O (by rw[uZ,length_take];omega)) (sr (sr q5 (Gn q4) (by simp;omega)) (rS Uu.2 O (o1 _)) (by rw[uZ,length_drop];simp;omega))
  have Xm:∀v7,fA aX (af (P4 (ai 1)) (af (f2 be (fA aX (fV 4 aj)) (lC (ai 1) (cM (fI 1)) cY)) aj)) (B v7)=some (.lst (L3.map lz),true):=λv7=>by
   obtain⟨U,q4,q5,O⟩:=hA (B v7) (.inr ⟨v7,rfl⟩);refine Jh (b:=true) ?_ (sr (Gn q4) (rS hz U (o1 _)) (by rw[length_drop];simp;omega));unfold P4;rw[U,vJ];show some (D.lst (z.map .int).reverse,true)=some (D.lst (z.reverse.map .int),true);rw[List.map_reverse]
  have Xn:∀v7,fA aX (af (f2 be (ai 1) (fA aX (fV 4 aj))) (af (fA gs (fV 1 aj)) aj)) (B v7)=some (.lst (L4.map lz),true):=λv7=>by
   obtain⟨U,q4,q5,O⟩:=hA (B v7) (.inr ⟨v7,rfl⟩);exact Jh (c:=true) (sr U (Gn q4) (by simp;omega)) (aG [lz z] (bR U rfl) rfl)
  refine av rfl (fF (.int a) ?_ rfl (fF (.int m) ?_ rfl (cj (ds:=lo.map .int) ((wJ (z:=z) (b:=false) rfl rfl).trans (by rw[Us];rfl)) (kZ _) (cj (ds:=M.map .int) ((rS (z:=z) (b:=false) (le_of_lt MY) rfl rfl).trans (by rw[Ut];rfl)) (kZ _) (Db (d:=.lst (T.map lz)) (b:=true) Xk rfl (.inr rfl) (Db (d:=.lst ((T++L2).map lz)) (b:=true) (Mq (b:=false) rfl (Xl _) (show 2+2<=1000 by decide)) rfl (.inr rfl) (Db (d:=.lst ((T++L2++L3).map lz)) (b:=true) (Mq (b:=false) rfl (Xm _) (show 4+2<=1000 by decide)) rfl (.inr rfl) (ax (fW (x:=.lst ((T++L2++L3++L4).map lz)) (y:=.int (c % 8)) (b1:=true) (b2:=false) (Mq (b:=false) rfl (Xn _) (show 6+2<=1000 by decide)) (bo (.int c) (.int 8) rfl rfl (by simp)) ey)))))))))
  ·refine bo (.int (c / 8)) (.int z.length) (by simp) (aG [lz z] rfl (by simp[lz])) ?_;show(if decide ((0:Int)<z.length)=true then _ else _)=_;rw[if_pos (sv (by omega))];show some (D.int (c / 8 % z.length),false)=_;rw[ha]
  ·refine bo (.int (c / 64 % (G+4))) (.int 2) (bo (.int (c / 64)) (.int (G+4)) (by simp) (by simp) ?_) rfl (by rw[←Ur];rfl);show(if decide ((0:Int)<G+4)=true then _ else _)=_;rw[if_pos (sv (by omega))]
 ·simp only[T,L2,L3,L4,cons_append,nil_append,mem_cons,not_mem_nil,or_false]at hy;have d1:(M.drop 1).length<=300:=by rw[length_drop];omega
  have d2:(M.take 1).length<=300:=by rw[length_take];omega
  have d3:(z.drop 1).length<=300:=by rw[length_drop];omega
  rcases hy with rfl|rfl|rfl|rfl|rfl|rfl|rfl|rfl<;>first|(rw[uZ,uZ,length_singleton];omega)|(rw[uZ,uZ];omega)|(rw[uZ,length_singleton];omega)|(rw[uZ];omega)|(rw[length_reverse];omega)|(rw[vE];omega)|omega
noncomputable def Ew (ns:LI)(zs:LS)(T:Int)(ab:LD)(aa day:Int)(U v7 v8 v9 wL rT zh Gs Gu G M O:OB):DL.Env:=[sL (ns.map .int),lT (zs.map .str),sI T,sT ab,sI aa,sI day,U,v7,v8,v9,wL,rT,zh,Gs,Gu,G,M,O]
def Jj {ρ:DL.Env}{i:Nat}{f:FE}{L:List LI}{z:LI}{b:Bool}(e:ρ[i]? = some (lT (L.map lz)))(G:f (fE ρ)=some (lz z,b))(h:L.length<=1000):jm i f ρ=some (.nx (ρ.set i (lT ((L++[z]).map lz)))):=by
 unfold jm;rw[e];dsimp only;rw[G,vJ,if_pos (bD (by rw[vI];omega)),uW];rfl
section
variable {ab:LD}(g:∀r∈ab,bZ r) (hl:ab.length<=30) (aa:Int) (hn:((bN (ao ab aa)).map (az 0)).Nodup) (ho:(cB (ao ab aa)).length<=60)
include g hl hn ho
theorem Az (day:Int){n:Nat}(h:n∈cr ab aa day):∃z:LI,pb [.tup ab,.int aa,.int day,.int (n:Int)]=lT (z.map .int)/\0<z.length/\z.length<=300:=by
 obtain⟨r,hr,_⟩:=Gd h;obtain⟨ns,c,k,hk⟩:=Gg g day 100 n r hr h (lt_of_le_of_lt (vM _ _) (lt_of_le_of_lt (cw ab aa) (by omega)));refine⟨(((n::ns).map (λ(m:Nat)=>(m:Int)))++[c]).reverse,(Dx g hl aa hn ho day k (by omega)).trans ?_,by simp,by simp;omega⟩;rw[List.map_reverse,uW,uP];rfl
theorem Jk (ns:LI)(zs:LS)(ms day G:Int)(z:LI)(hz:z.length<=900)(v6 v7 v8 v9 wL rT zh M O:OB):∃T U,Ai (Ew ns zs ms ab aa day v6 v7 v8 v9 wL rT zh (sF (lz z)) (lT (z.map .int)) (sI G) M O)=some (.nx (Ew ns zs ms ab aa day v6 v7 v8 v9 wL rT zh (sF (lz z)) (lT (z.map .int)) (sI G) T U)):=by
 obtain⟨b,hb⟩:∃b,QR (eZ ab aa G) (o9 ab aa) z=b:=⟨_,rfl⟩;have e1:=Dy (uq g hl aa hn ho G 0).1 (Jc hl aa G) z (by omega);have e2:=Je g hl aa hn ho G z hz;rw[hb]at e1 e2;have hp:aO 40 (lz z)=true:=by
  show(z.map D.int).all (aO 39)=true;rw[all_map,all_eq_true];exact λ_ _=>rfl
 refine⟨sO b,sO b,fF (.bl b) (aG [.tup ab,.int aa,.int G,lz z] rfl e1) rfl (fF (.bl b) (aG [.tup ab,.int aa,.int G,lz z] rfl e2) rfl (kj (bV (p:=false) (q:=false) (bI (p:=true) (cI (aG [.bl b,.ty "bool"] rfl (Fm rfl)))) λ_=>bV (p:=false) (q:=false) (cI (bo (.bl b) (.bl b) rfl rfl (by simp))) λ_=>cI (bo (lz z) (lz z) rfl rfl ?_)) rfl))⟩;unfold uL;rw[if_pos ⟨hp,hp⟩,qU 40 _ hp];rfl
end
def law_true (ns:LI)(_:ns.length<=63):∃b,F_law [.lst (ns.map .int)]=some (.bl true,b):=by
 obtain⟨c0,e0,h0⟩:=eG ns 0;obtain⟨c3,e3,h3⟩:=eG ns 3;obtain⟨c4,e4,h4⟩:=eG ns 4;obtain⟨G,Uv,Yn⟩:=eG ns 90;obtain⟨zs,ez,hz,Xo⟩:=FF c0 h0;have Uw:=mod_lt (x:=c3) (m:=3) (by decide);obtain⟨M,Yo,Xp⟩:=mQ (ns:=[1,1,500]) (i:=c3 % 3) Uw.1 Uw.2;obtain⟨ab,erw,Qj,Sl,M6⟩:=IE ns zs hz M;have Xq:=mod_lt (x:=c3 / 3) (m:=13) (by decide);have Ur:=mod_lt (x:=c4) (m:=3) (by decide);have Xr:=mod_lt (x:=G / 2) (m:=13) (by decide);have Qd:=mod_lt (x:=G) (m:=2) (by decide);obtain⟨aa,Ps,Xs⟩:=mQ (ns:=[9999,c3 / 3 % 13*M]) (i:=c4 % 3 / 2) (by omega) (by simp;omega);obtain⟨day,Yp,Xt⟩:=mQ (ns:=[9999,G / 2 % 13*M]) (i:=G % 2) (by omega) (by simp;omega);have Pu:bx (.tup ab)=true:=by simp[ce λd hd=>(Qj d hd).flat]
 have hn:((bN (ao ab aa)).map (az 0)).Nodup:=by
  refine List.Nodup.sublist (Gb ab aa) ?_;rw[M6];refine List.Nodup.sublist (take_sublist _ _) ?_;obtain⟨x,hx⟩:∃x,zs[5]? = some x:=⟨_,vU (by omega)⟩;obtain⟨y,hy⟩:∃y,zs[6]? = some y:=⟨_,vU (by omega)⟩;have e:zs.drop 5=[x,y]:=by
   refine ext_getElem? λj=>?_;rw[getElem?_drop];match j with
   |0=>exact hx
   |1=>exact hy
   |j+2=>rw[getElem?_eq_none (by omega)];rfl
  rw[e];simp[Xo x y hx hy]
 have ho:(cB (ao ab aa)).length<=60:=by
  unfold cB;rw[(b7 _ _).length_eq];exact vR (vM _ _) (vR (cw ab aa) (by omega))
 obtain⟨MZ,Xu,_⟩:=eG ns 91;obtain⟨O,So,_⟩:=eG ns 170;obtain⟨Gv,Sq,_⟩:=eG ns 171;have cf:∀k:Nat,∃c:Int,bA [.lst (ns.map .int),.int k]=sI c:=λk=>let ⟨c,e,_⟩:=eG ns k;⟨c,e⟩;let cv:Nat->Int:=λk=>(cf k).choose;have Ux:∀k:Nat,bA [.lst (ns.map .int),.int k]=sI (cv k):=λk=>(cf k).choose_spec;let W:=Ew ns zs M ab aa day;have hm:(0:Int)<ab.length+4:=by omega
 have Pw:∀x:Int,bC (.int x) (.int (ab.length+4))=sI (x % (ab.length+4)):=λx=>by
  show(if decide ((0:Int)<ab.length+4)=true then _ else _)=_;rw[if_pos (sv hm)]
 let W1:List LI->OB->OB->DL.Env:=λL v7 v8=>W (lT (L.map lz)) v7 v8 none none none none none none none none none;obtain⟨ρ1,f1,L1,w7,w8,rfl,PR,Qh⟩:=mw (tg:=cC 7) (g:=Fs) 4 (λi ρ=>∃(L:List LI)(v7 v8:OB),ρ=W1 L v7 v8/\L.length=2+i/\∀z∈L,z.length<=900) (W1 [[],[MZ % (ab.length+4) - 2]] none none) ⟨_,none,none,rfl,rfl,by simp⟩ (by
  rintro k ρ hk ⟨L,v7,v8,rfl,hL,hz⟩;obtain⟨cs,Qc⟩:∃cs:LI,(List.range (1+k)).map (λj=>cv (92+4*k+j))=cs:=⟨_,rfl⟩;have e8:=km (fi:=fu (f2 be (fI 1) (ai 7))) (nT:=1) (cap:=[0,7]) (tg:=cC 0) (fe:=fA bA (fV 1 (af (f2 be (f2 be (fI 92) (f2 ft (fI 4) (ai 2))) (ai 0)) aj))) (ρ:=W1 L (sI k) v8) (List.range (1+k)) (λ(j:Nat)=>.int (0+(j:Int))) (λj=>.int (cv (92+4*k+j))) (gU (j:=1+k) (b:=false) (by simp[W1,W,Ew]) (by omega)) (by rw[length_range];omega) λj hj=>by
   have hj:=mem_range.mp hj;refine⟨[sI (0+(j:Int)),sL (ns.map .int),sI k],rfl,false,aG [.lst (ns.map .int),.int ((92+4*k+j:Nat):Int)] (bR rfl (bR ?_ rfl)) (Ux _)⟩;refine bo (.int ((92+4*k:Nat):Int)) (.int (0+(j:Int))) (bo (.int 92) (.int (4*(k:Int))) rfl (bo (.int 4) (.int k) rfl rfl ?_) ?_) rfl ?_
   ·have : -18446744073709551616<(k:Int)/\(k:Int)<18446744073709551616:=by omega
    simp[this]
   ·show some (D.int (92+4*(k:Int)),false)=_;congr 3
   ·show some (D.int (((92+4*k:Nat):Int)+(0+(j:Int))),false)=_;congr 3;omega
  have Xv:bK (fu (f2 be (fI 1) (ai 7))) 1 [0,7] (cC 0) fH (fA bA (fV 1 (af (f2 be (f2 be (fI 92) (f2 ft (fI 4) (ai 2))) (ai 0)) aj))) (W1 L (sI k) v8)=lT (cs.map .int):=by
   rw[e8,←Qc,uP];rfl
  have Kn:cs.length=1+k:=by rw[←Qc];simp
  have e6:=km (fi:=bP (ai 8)) (nT:=1) (cap:=[3]) (tg:=cC 0) (fe:=f2 l8 (f2 bC (ai 0) (f2 be (fA df (fV 1 aj)) (fI 4))) (fI 2)) (ρ:=fE (W1 L (sI k) (sF (lz cs)))) cs .int (λc=>.int (c % (ab.length+4) - 2)) rfl (by omega) λc _=>
   ⟨[sI c,sT ab],rfl,false,bo (.int (c % (ab.length+4))) (.int 2) (bo (.int c) (.int (ab.length+4)) rfl (bo (.int ab.length) (.int 4) (aG [.tup ab] rfl rfl) rfl rfl) (Pw c)) rfl rfl⟩
  refine⟨W1 L (sI k) v8,_,by simp[W1,W,Ew],.inl (cj (ds:=cs.map .int) Xv (kZ _) ?_),L++[cs.map λc:Int=>c % ((ab.length:Int)+4) - 2],sI k,sF (lz cs),rfl,by simp;omega,?_⟩
  ·show jm 6 _ (W1 L (sI k) (sF (lz cs)))=_;refine Jj (b:=true) rfl (e6.trans ?_) (by omega);show _=some (D.lst ((cs.map λc:Int=>c % ((ab.length:Int)+4) - 2).map .int),true);rw[uP];rfl
  ·intro z hz';rcases mem_append.mp hz' with h|h
   ·exact hz z h
   ·rw[uT h,vI];omega)
 have eS:=zb Qj (by omega) aa hn ho day;rw[IU]at eS;obtain⟨T,hT⟩:∃T:LI,(zc (cr ab aa day)).map (λ(n:Nat)=>(n:Int))=T:=⟨_,rfl⟩;have eT:(zc (cr ab aa day)).map (λ(n:Nat)=>D.int (n:Int))=T.map .int:=by rw[←hT,uP];rfl
 rw[eT]at eS;have Uy:∀x∈T,∃n∈cr ab aa day,x=(n:Int):=λx hx=>by
  rw[←hT]at hx;obtain⟨n,h1,h2⟩:=vO hx;exact⟨n,Dv.mp h1,h2.symm⟩
 have TV:T.length<=60:=by
  have h1:=uo (ab:=ab) (by omega) aa day;rw[←hT,vI];generalize cr ab aa day=S at h1;exact vR (le_of_eq (b7 (λn:Nat=>[(n:Int)]) S).length_eq) h1
 have Sc:=mod_lt (x:=Gv) (m:=T.length+1) (by omega);obtain⟨a,ha⟩:∃a:Nat,Gv % (T.length+1)=a:=⟨(Gv % (T.length+1)).toNat,by omega⟩;obtain⟨N3,Sr⟩:∃N3,(T.drop a++T.take a).take 3=N3:=⟨_,rfl⟩;have Ss:∀x∈N3,∃n∈cr ab aa day,x=(n:Int):=λx hx=>by
  rw[←Sr]at hx;rcases mem_append.mp (List.mem_of_mem_take hx)with h|h
  ·exact Uy x (List.mem_of_mem_drop h)
  ·exact Uy x (List.mem_of_mem_take h)
 have Xw:N3.length<=3:=by rw[←Sr,length_take];omega
 let W2:List LI->OB->OB->DL.Env:=λL rT zh=>W (lT (L.map lz)) w7 w8 (sF (lz T)) (sI a) rT zh none none none none none;obtain⟨ρ2,Qi,L2,Su,Sv,rfl,R8,Xx⟩:=eW (tg:=cC 11) (g:=Ft) (λi ρ=>∃(L:List LI)(rT zh:OB),ρ=W2 L rT zh/\L.length=6+3*i/\∀z∈L,z.length<=900) (N3.map .int) (W2 L1 none none) ⟨L1,none,none,rfl,PR,Qh⟩ (by
  rintro i d ρ hd ⟨L,rT,zh,rfl,hL,hz⟩;rw[vA]at hd;obtain⟨x,hx,rfl⟩:=oY hd;have hi:i<N3.length:=(vV hx).1;obtain⟨n,Xy,rfl⟩:=Ss x (vL hx);obtain⟨t,et,Xz,X0⟩:=Az Qj (by omega) aa hn ho day Xy;have Px:∀(q:Nat),∃y,(∀(L:List LI),fA k8 (af (fA bA (fV 0 (af (f2 be (fC (.int (q:Int))) (ai 11)) aj))) (fV 12 (af (fA df (fV 3 aj)) aj))) (fE (W2 L (sI (n:Int)) (sF (lz t))))=some (lz y,false))/\y.length<=900:=λq=>by
   obtain⟨y,ey,hy⟩:=Ji (cv (q+n)) t Xz X0 ab.length;exact⟨y,λL=>aG [.int (cv (q+n)),lz t,.int ab.length] (bR (aG [.lst (ns.map .int),.int ((q+n:Nat):Int)] (bR rfl (bR (bo (.int (q:Int)) (.int (n:Int)) rfl rfl rfl) rfl)) (Ux _)) (bR rfl (bR (aG [.tup ab] rfl rfl) rfl))) ey,hy⟩
  obtain⟨y1,X1,X2⟩:=Px 110;obtain⟨y2,X3,X4⟩:=Px 140;refine⟨W2 L (sI (n:Int)) zh,W2 (L++[t]++[y1]++[y2]) (sI (n:Int)) (sF (lz t)),rfl,.inl (cj (ds:=t.map .int) (aG [.tup ab,.int aa,.int day,.int (n:Int)] rfl et) (kZ _) (cz (ρ':=W2 (L++[t]) (sI (n:Int)) (sF (lz t))) ?_ (cz (ρ':=W2 (L++[t]++[y1]) (sI (n:Int)) (sF (lz t))) ?_ ?_))),L++[t]++[y1]++[y2],_,_,rfl,by simp;omega,?_⟩
  ·show jm 6 _ (W2 L (sI (n:Int)) (sF (lz t)))=_;exact Jj rfl (b:=false) rfl (by omega)
  ·show jm 6 _ (W2 (L++[t]) (sI (n:Int)) (sF (lz t)))=_;exact Jj rfl (X1 _) (by simp;omega)
  ·show jm 6 _ (W2 (L++[t]++[y1]) (sI (n:Int)) (sF (lz t)))=_;exact Jj rfl (X3 _) (by simp;omega)
  ·intro z hz';simp only[mem_append,mem_singleton]at hz';rcases hz' with ((h|rfl)|rfl)|rfl
   ·exact hz z h
   ·omega
   ·exact X2
   ·exact X4)
 let W3:=W (sL (L2.map lz)) w7 w8 (sF (lz T)) (sI a) Su Sv;obtain⟨ρ3,X5,X6,X7,X8,X9,XA,rfl⟩:=eW (tg:=cC 13) (g:=Fu) (λ_ ρ=>∃(Gs Gu Ks U Jv:OB),ρ=W3 Gs Gu Ks U Jv) (L2.map lz) (W3 none none none none none) ⟨_,_,_,_,_,rfl⟩ (by
  rintro i d ρ hd ⟨Gs,Gu,Ks,U,Jv,rfl⟩;rw[vA]at hd;obtain⟨z,XB,rfl⟩:=oY hd;have XC:=Xx z (vL XB);obtain⟨ρ4,f4,Yr,XD,XE,rfl⟩:=eW (tg:=cC 15) (g:=Ai) (λ_ ρ=>∃(Ks U Jv:OB),ρ=W3 (sF (lz z)) (lT (z.map .int)) Ks U Jv) (([day,O % 13*M]:LI).map .int) (W3 (sF (lz z)) (lT (z.map .int)) Ks U Jv) ⟨_,_,_,rfl⟩ (by
   rintro j d ρ hd ⟨Ks,U,Jv,rfl⟩;rw[vA]at hd;obtain⟨w,_,rfl⟩:=oY hd;obtain⟨XD,XE,e⟩:=Jk Qj (by omega) aa hn ho ns zs M day w z XC (sL (L2.map lz)) w7 w8 (sF (lz T)) (sI a) Su Sv U Jv;exact⟨_,_,rfl,.inl e,_,_,_,rfl⟩)
  refine⟨_,_,rfl,.inl (cj (ds:=z.map .int) (aG [lz z] rfl rfl) (kZ _) (iF (ds:=([day,O % 13*M]:LI).map .int) ?_ f4)),_,_,_,_,_,rfl⟩;have e:fA aW (fV 5 (af (f2 ft (f2 bC (fA bA (fV 0 (af (fI 170) aj))) (fI 13)) (ai 2)) aj)) (fE (W3 (sF (lz z)) (lT (z.map .int)) Ks U Jv))=sT [.int day,.int (O % 13*M)]:=aG [.int day,.int (O % 13*M)] (bR rfl (bR (bo (.int (O % 13)) (.int M) (bo (.int O) (.int 13) (aG [.lst (ns.map .int),.int ((170:Nat):Int)] rfl So) rfl (by simp)) rfl (lR (by omega))) rfl)) (c7 _ (by simp));show(fA aW _ (fE (W3 (sF (lz z)) (lT (z.map .int)) Ks U Jv))).bind _=_;rw[e];rfl)
 refine⟨false,av rfl (cj (ds:=zs.map .str) (aG [.int c0] (aD (aG [.lst (ns.map .int),.int ((0:Nat):Int)] rfl e0) rfl) ez) (dY zs) (fF (.int M) ?_ rfl (fF (.tup ab) (aG [.lst (ns.map .int),.lst (zs.map .str),.int M,.int 14] rfl erw) Pu (fF (.int aa) ?_ rfl (fF (.int day) ?_ rfl (cz (ρ':=W1 [[],[MZ % (ab.length+4) - 2]] none none) ?_ (cz (m5 (gU (j:=4) (b:=false) rfl (by decide)) f1) (cj (ds:=T.map .int) (aG [.tup ab,.int aa,.int day] rfl eS) (kZ _) (fF (.int a) ?_ rfl (cz (ρ':=W2 L2 Su Sv) ?_ (cz (ρ':=W3 X6 X7 X8 X9 XA) ?_ (ax rfl))))))))))))⟩
 ·exact fW (x:=.lst (([1,1,500]:LI).map .int)) (y:=.int (c3 % 3)) (b1:=true) (b2:=false) (by simp[sizeLine]) (bo (.int c3) (.int 3) (aG [.lst (ns.map .int),.int ((3:Nat):Int)] rfl e3) rfl (by simp)) Xp
 ·exact fW (x:=.lst (([9999,c3 / 3 % 13*M]:LI).map .int)) (y:=.int (c4 % 3 / 2)) (b1:=true) (b2:=false) (aG [.int 9999,.int (c3 / 3 % 13*M)] (bR rfl (bR (bo (.int (c3 / 3 % 13)) (.int M) (bo (.int (c3 / 3)) (.int 13) (bo (.int c3) (.int 3) (aG [.lst (ns.map .int),.int ((3:Nat):Int)] rfl e3) rfl (by simp)) rfl (by simp)) rfl (lR (by omega))) rfl)) (gk _ (by simp))) (bo (.int (c4 % 3)) (.int 2) (bo (.int c4) (.int 3) (aG [.lst (ns.map .int),.int ((4:Nat):Int)] rfl e4) rfl (by simp)) rfl (by simp)) Xs
 ·exact fW (x:=.lst (([9999,G / 2 % 13*M]:LI).map .int)) (y:=.int (G % 2)) (b1:=true) (b2:=false) (aG [.int 9999,.int (G / 2 % 13*M)] (bR rfl (bR (bo (.int (G / 2 % 13)) (.int M) (bo (.int (G / 2)) (.int 13) (bo (.int G) (.int 2) (aG [.lst (ns.map .int),.int ((90:Nat):Int)] rfl Uv) rfl (by simp)) rfl (by simp)) rfl (lR (by omega))) rfl)) (gk _ (by simp))) (bo (.int G) (.int 2) (aG [.lst (ns.map .int),.int ((90:Nat):Int)] rfl Uv) rfl (by simp)) Xt
 ·show yk 6 _ (Ew ns zs M ab aa day none none none none none none none none none none none none)=_;unfold yk;rw[show af (fA aX aj) (af (fA aX (af (f2 l8 (f2 bC (fA bA (fV 0 (af (fI 91) aj))) (f2 be (fA df (fV 3 aj)) (fI 4))) (fI 2)) aj)) aj) (fE (Ew ns zs M ab aa day none none none none none none none none none none none none))=some [lz [],lz [MZ % (ab.length+4) - 2]]from aD (b:=true) rfl (aD (Gn (bo (.int (MZ % (ab.length+4))) (.int 2) (bo (.int MZ) (.int (ab.length+4)) (aG [.lst (ns.map .int),.int ((91:Nat):Int)] rfl Xu) (bo (.int ab.length) (.int 4) (aG [.tup ab] rfl rfl) rfl rfl) (Pw MZ)) rfl rfl)) rfl),vJ];exact(if_pos (show _<=sizeLine from(by decide:2<=sizeLine))).trans rfl
 ·refine bo (.int Gv) (.int (T.length+1)) (aG [.lst (ns.map .int),.int ((171:Nat):Int)] rfl Sq) (bo (.int T.length) (.int 1) (aG [lz T] rfl (by simp[lz])) rfl rfl) ?_;show(if decide ((0:Int)<T.length+1)=true then some (D.int (Gv % (T.length+1)),false)else none)=_;rw[if_pos (sv (by omega)),ha]
 ·show jz _ _ _ (W2 L1 none none)=_;refine iF (ds:=N3.map .int) ?_ Qi;have Uz:∀L,cM (ai 10) (fE (W L w7 w8 (sF (lz T)) (sI a) none none none none none none none))=some (some (a:Int)):=λ_=>rfl;have e9:ai 9 (fE (W2 L1 none none))=some (lz T,false):=rfl;have:=wJ (a:=3) (h:=cM (fI 3)) (sr (rS (by omega) e9 (Uz _)) (wJ e9 (Uz _)) (by rw[length_drop,length_take];omega)) rfl;rw[Sr]at this;show(lC _ _ _ _).bind _=_;rw[this];rfl
 ·show jz _ _ _ (W3 none none none none none)=_;exact iF (ds:=L2.map lz) rfl X5
end Lw
namespace Lw
open PySem PySem.Spec PyProof.Rows L2 DL
noncomputable def eK (i:Nat):Stmt:=PySem.Challenge.pw_sealchain_k30_lists_that_are_chains.main.body.getD i (.Pass ⟨0,0,0,0⟩)
structure Tx (w:World)(K:Frag)(mg:Str->Option Value):Prop where
 hX:∃h,K.In h/\h.Ns mainGlobals mg
 d0:dj K "word_of" (eK 7)
 d1:dj K "part_of" (eK 8)
 d2:dj K "day_of" (eK 9)
 d3:dj K "heard" (eK 11)
 d4:dj K "rank" (eK 13)
 d5:dj K "in_order" (eK 15)
 d6:dj K "by_office" (eK 27)
 d7:dj K "roots" (eK 16)
 d8:dj K "is_known" (eK 12)
 d9:dj K "tells" (eK 19)
 d10:dj K "told_of" (eK 20)
 d11:dj K "lives" (eK 21)
 d12:dj K "has_seal" (eK 22)
 d13:dj K "is_sound" (eK 23)
 d14:dj K "lies_in" (eK 1)
 d15:dj K "is_alive" (eK 25)
 d16:dj K "by_since" (eK 26)
 d17:dj K "chief_of" (eK 28)
 d18:dj K "holder_by" (eK 29)
 d19:dj K "is_held_by" (eK 30)
 d20:dj K "is_first_death" (eK 31)
 d21:dj K "counts" (eK 32)
 d22:dj K "new_claim" (eK 33)
 d23:dj K "ended" (eK 34)
 d24:dj K "after_choice" (eK 35)
 d25:dj K "inherited" (eK 36)
 d26:dj K "after_death" (eK 37)
 d27:dj K "claims" (eK 38)
 d28:dj K "is_paper" (eK 41)
 d29:dj K "is_leave" (eK 42)
 d30:dj K "is_borne" (eK 43)
 d31:dj K "covers" (eK 4)
 d32:dj K "reach_bar" (eK 48)
 d33:dj K "office_bar" (eK 49)
 d34:dj K "office_bases" (eK 52)
 d35:dj K "ends_within" (eK 3)
 d36:dj K "is_within" (eK 2)
 d37:dj K "is_ahead" (eK 14)
 d38:dj K "leave_bar" (eK 50)
 d39:dj K "leaves_to" (eK 51)
 d40:dj K "leave_bases" (eK 53)
 d41:dj K "copy_bases" (eK 54)
 d42:dj K "bases_by" (eK 55)
 d43:dj K "may_call" (eK 44)
 d44:dj K "calls_in" (eK 45)
 d45:dj K "calls_by" (eK 46)
 d46:dj K "is_fit" (eK 57)
 d47:dj K "links" (eK 58)
 d48:dj K "bears" (eK 59)
 d49:dj K "stood" (eK 60)
 d50:dj K "standing" (eK 61)
 d51:dj K "first_bearer" (eK 62)
 d52:dj K "chain" (eK 63)
 d53:dj K "is_begun" (eK 64)
 d54:dj K "is_linked" (eK 65)
 d55:dj K "is_chain" (eK 66)
 d56:dj K "_law_cell" (eK 68)
 d57:dj K "_law_names" (eK 69)
 d58:dj K "_law_stretch" (eK 70)
 d59:dj K "_law_deed" (eK 71)
 d60:dj K "_law_rows" (eK 72)
 d61:dj K "bases" (eK 56)
 d62:dj K "calls" (eK 47)
 d63:dj K "_law_free" (eK 73)
 d64:dj K "_law_due" (eK 74)
 d65:dj K "_law_bent" (eK 75)
 d66:dj K "law" (eK 76)
 n0:mg "all" = none
 n1:mg "any" = none
 n2:mg "bool" = none
 n3:mg "dict" = none
 n4:mg "enumerate" = none
 n5:mg "int" = none
 n6:mg "isinstance" = none
 n7:mg "len" = none
 n8:mg "list" = none
 n9:mg "max" = none
 n10:mg "min" = none
 n11:mg "range" = none
 n12:mg "reversed" = none
 n13:mg "set" = none
 n14:mg "sorted" = none
 n15:mg "tuple" = none
 n16:mg "zip" = none
 k0:KC K mg "PAPERS" yo
 k1:KD w K mg "PARTS" gO
 k2:KC K mg "SEALINGS" hZ
 l5:zW K "in_order"
 l12:zW K "has_seal"
 l20:zW K "is_first_death"
 l42:zW K "bases_by"
section
variable {P:Program}{w:World}{K:Frag}{mg:SV}{base:Heap}(T:Tx w K mg)
include T
theorem f0:Fn P w K mg base 1 "word_of" aM:=T.d0.fq T.hX tS ["row"] 1 λnd hr hu=>
  (bd (aP (bF 0) aq))
theorem f1:Fn P w K mg base 2 "part_of" au:=T.d1.fq T.hX tT ["row","part"] 2 λnd hr hu=>
  (bd (aP (bF 0) (aw aJ aq (HK T.k1 (a7 (f0 T) hr) (ag 1)))))
theorem f2:Fn P w K mg base 3 "day_of" aS:=T.d2.fq T.hX yp ["row"] 1 λnd hr hu=>
  (am (bX (aH (cF hu) (a7 (f0 T) hr) aA) dO)
   (bd (a7 (f1 T) hr)))
theorem f3:Fn P w K mg base 1 "heard" cA:=T.d3.fq T.hX Bv ["book","known"] 2 λnd hr hu=>
  (bd (fX ["number","row","known"] (HE T.n4 (ag 0)) (eN (aH nU (bF 1) (ag 2))) (ag 0)))
theorem f4:Fn P w K mg base 4 "rank" fx:=T.d4.fq T.hX Fq ["book","number"] 2 λnd hr hu=>
  (bd (aZ (ah (aR (f2 T) hr (ah (aP (ag 0) (ag 1)) ak)) (aB 1 ak))))
theorem f5:Fn P w K mg base 8 "in_order" dR:=T.d5.fqL T.hX qy ["book","known","dated"] 2 λnd hr hu G=>
  (am (mv ["number","book"] nd (bQ (a7 (f3 T) hr)) (eN (aH ve (aR (f2 T) hr (ah (aP (ag 1) (ag 0)) ak)) dO)) (ag 0))
   (bd (EJ EH T.n14 (ag 2) (wc (cap:=[0]) (N':=["number","book"]) (by decide +kernel) T.l5 G rfl rfl (Be (by decide +kernel) rfl rfl rfl rfl rfl) rfl (.cons rfl rfl (Or.inl rfl) rfl (oM (by decide +kernel) rfl) (.nil rfl)) rfl hr.in1.in1 (λ_ _ _ _=>rfl) λ_ _ _ _ hr=>have hu:=C3 hr;(a7 (f4 T) hr)))))
theorem f6:Fn P w K mg base 1 "by_office" gA:=T.d6.fq T.hX oe ["claim"] 1 λnd hr hu=>
  (bd (aZ (ah (bF 0) (ah (bF 0) (ah (bF 0) ak)))))
theorem f7:Fn P w K mg base 3 "roots" gu:=T.d7.fq T.hX Bw ["book","known","known_rows"] 2 λnd hr hu=>
  (am (mv ["number","book"] nd (bQ (a7 (f3 T) hr)) gZ (aP (ag 1) (ag 0)))
   (bd (gS (LX rfl) T.n3 LW (ah (fX ["row"] (bQ (ag 2)) (eN (aH (cF hu) (a7 (f0 T) hr) aA)) (aZ (ah (a7 (f1 T) hr) (aB 0 ak)))) ak))))
theorem f8:Fn P w K mg base 1 "is_known" c8:=T.d8.fq T.hX qz ["book","known","number"] 3 λnd hr hu=>
  (bd (gG (Eg nU sW aq (ag 2) (bp eU T.n7 eV (aB 0 ak))) (fJ (cq nU (aP (aP (ag 0) (ag 2)) aq) (ag 1)))))
theorem f9:Fn P w K mg base 4 "tells" oW:=T.d9.fq T.hX By ["row","words","person","day"] 4 λnd hr hu=>
  (bd (gG (cq sX (a7 (f0 T) hr) (ag 1)) (gG (cq (cF hu) (a7 (f1 T) hr) (ag 2)) (fJ (cq nU (a7 (f2 T) hr) (ag 3))))))
theorem f10:Fn P w K mg base 5 "told_of" gV:=T.d10.fq T.hX tU ["book","known","words","person","day"] 5 λnd hr hu=>
  (bd (fX ["number","words","person","day","book"] (bQ (a7 (f3 T) hr)) (eN (bY (aR (f9 T) hr (ah (aP (ag 4) (ag 0)) (aB 1 (aB 2 (aB 3 ak))))))) (ag 0)))
theorem f11:Fn P w K mg base 6 "lives" m7:=T.d11.fq T.hX Bz ["book","known","person","day"] 4 λnd hr hu=>
  (bd (cq (cF hu) (bp eU T.n7 eV (ah (aR (f10 T) hr (aB 0 (aB 1 (ah (aZ (ah aA ak)) (aB 2 (aB 3 ak)))))) ak)) aq))
theorem UK:Fn P w K mg base 8 "has_seal" lI:=T.d12.fqL T.hX q8 ["book","known","person","day","told"] 4 λnd hr hu G=>
  (am (a8 nd (aR (f10 T) hr (aB 0 (aB 1 (ah (aZ (ah aA (ah aA ak))) (aB 2 (aB 3 ak)))))))
   (am (bX (aH (cF hu) (bp eU T.n7 eV (aB 4 ak)) aq) eQ)
   (bd (cq (cF hu) (aR (f0 T) hr (ah (aP (ag 0) (ye SA T.n9 (ag 4) (wc (cap:=[0]) (N':=["number","book"]) (by decide +kernel) T.l12 G rfl rfl (Be (by decide +kernel) rfl rfl rfl rfl rfl) rfl (.cons rfl rfl (Or.inl rfl) rfl (oM (by decide +kernel) rfl) (.nil rfl)) rfl hr.in1 (λ_ _ _ _=>rfl) λ_ _ _ _ hr=>have hu:=C3 hr;(a7 (f4 T) hr)) hr)) ak)) aA))))
theorem P9:Fn P w K mg base 9 "is_sound" fy:=T.d13.fq T.hX qA ["book","known","number","sealer","day"] 3 λnd hr hu=>
  (am (bX (jN (iC (eO (bY (a7 (f8 T) hr))) (hG (aH jT (aR (f0 T) hr (ah (aP (ag 0) (ag 2)) ak)) (xx T.k2))))) eQ)
   (am (a8 nd (aR (f1 T) hr (ah (aP (ag 0) (ag 2)) (ah aA ak))))
   (am (a8 nd (aR (f2 T) hr (ah (aP (ag 0) (ag 2)) ak)))
   (bd (gG (a7 (f11 T) hr) (fJ (a7 (UK T) hr)))))))
theorem SG:Fn P w K mg base 1 "lies_in" jn:=T.d14.fq T.hX tV ["day","stretch"] 2 λnd hr hu=>
  (bd (gG (cq nU (bF 1) (ag 0)) (fJ (Ei (cq Em (bF 1) dO) (fJ (cq sW (ag 0) (bF 1)))))))
theorem QS:Fn P w K mg base 2 "is_alive" cR:=T.d15.fq T.hX qB ["claim","day"] 2 λnd hr hu=>
  (bd (aR (SG T) hr (aB 1 (ah (aZ (ah (bF 0) (ah (bF 0) ak))) ak))))
theorem QT:Fn P w K mg base 1 "by_since" dn:=T.d16.fq T.hX qC ["claim"] 1 λnd hr hu=>
  (bd (aZ (ah (bF 0) (ah (bF 0) ak))))
theorem UL:Fn P w K mg base 5 "chief_of" lJ:=T.d17.fq T.hX qD ["alive","rule"] 2 λnd hr hu=>
  (am (bX (aH (cF hu) (ag 1) aA) (aP (ye SA T.n9 (ag 0) (Bg (QT T) (hr.in1.mono (by decide)) rfl) hr) aq))
   (bd (aP (ye QH T.n10 (ag 0) (Bg (QT T) (hr.in1.mono (by decide)) rfl) hr) aq)))
theorem SH:Fn P w K mg base 6 "holder_by" dS:=T.d18.fq T.hX oh ["claimed","root","day","alive","people","person","oldest"] 3 λnd hr hu=>
  (am (mv ["claim","day","root"] nd (bQ (ag 0)) (eN (jN (l7 (aH (cF hu) (bF 0) (a7 (f1 T) hr)) (j4 (bY (a7 (QS T) hr)))))) (ag 0))
   (am (a8 nd (pR rfl T.n14 T.n13 (fX ["claim"] (bQ (ag 3)) gZ (bF 0))))
   (am (bX (aH (cF hu) (bp eU T.n7 eV (aB 4 ak)) aq) (aZ (ah aA ak)))
   (am (bX (jN (l7 (aH zF (bp eU T.n7 eV (aB 4 ak)) aq) (j4 (aH (cF hu) (a7 (f1 T) hr) aA)))) (aZ (ah aA (aB 4 ak))))
   (am (a8 nd (aR (UL T) hr (aB 3 (ah (a7 (f1 T) hr) ak))))
   (am (a8 nd (ye QH T.n10 (fX ["claim","person"] (bQ (ag 3)) (eN (aH (cF hu) (bF 0) (ag 1))) (ag 0)) (Bg (QT T) (hr.in1.mono (by decide)) rfl) hr))
   (bd (aZ (ah aA (aB 5 (ah (bF 6) ak)))))))))))
theorem QU:Fn P w K mg base 7 "is_held_by" cO:=T.d19.fq T.hX m9 ["claimed","root","person","day"] 4 λnd hr hu=>
  (bd (cq (cF hu) (cN (a7 (SH T) hr) dD (dE aq)) (aZ (ah aA (aB 2 ak)))))
theorem UM:Fn P w K mg base 8 "is_first_death" gf:=T.d20.fqL T.hX jo ["book","known","number","row","deaths"] 3 λnd hr hu G=>
  (am (a8 nd (aP (ag 0) (ag 2)))
   (am (a8 nd (aR (f10 T) hr (aB 0 (aB 1 (ah (aZ (ah aA ak)) (ah (a7 (f1 T) hr) (ah (a7 (f2 T) hr) ak)))))))
   (bd (cq (cF hu) (ye QH T.n10 (ag 4) (wc (cap:=[0]) (N':=["each","book"]) (by decide +kernel) T.l20 G rfl rfl (Be (by decide +kernel) rfl rfl rfl rfl rfl) rfl (.cons rfl rfl (Or.inl rfl) rfl (oM (by decide +kernel) rfl) (.nil rfl)) rfl hr.in1 (λ_ _ _ _=>rfl) λ_ _ _ _ hr=>have hu:=C3 hr;(a7 (f4 T) hr)) hr) (ag 2)))))
theorem UN:Fn P w K mg base 10 "counts" mB:=T.d21.fq T.hX yq ["book","known","so_far","number","row","root"] 4 λnd hr hu=>
  (am (a8 nd (aP (ag 0) (ag 3)))
   (am (bX (aH (cF hu) (a7 (f0 T) hr) aA) (a7 (UM T) hr))
   (am (bX (aH jT (a7 (f0 T) hr) (aZ (ah aA (ah aA (ah aA ak))))) eQ)
   (am (a8 nd (EQ (D6 hu) (a7 (f7 T) hr) (a7 (f1 T) hr) ⟨rfl,rfl,rfl,rfl⟩))
   (am (bX (aH Em (ag 5) dO) eQ)
   (am (bX (aH (cF hu) (a7 (f0 T) hr) aA) eQ)
   (bd (gG (a7 (P9 T) hr) (fJ (aR (QU T) hr (aB 2 (aB 5 (ah (a7 (f1 T) hr) (ah (a7 (f2 T) hr) ak))))))))))))))
theorem SI:Fn P w K mg base 3 "new_claim" gB:=T.d22.fq T.hX oi ["row","since","number"] 3 λnd hr hu=>
  (bd (aZ (ah (a7 (f1 T) hr) (ah (a7 (f1 T) hr) (aB 1 (ah dO (aB 2 ak)))))))
theorem SJ:Fn P w K mg base 3 "ended" oZ:=T.d23.fq T.hX B1 ["so_far","offices","person","day","left","claim"] 4 λnd hr hu=>
  (am (a8 nd (bu ak))
   (am (lr (bQ (ag 0)) (zo 5 nd) cL (bv (fK (jN (iC (aH jT (bF 5) (ag 1)) (iC (aH (zG hu) (bF 5) (ag 2)) (hG (eO (jN (iC (bY (a7 (QS T) hr)) (hG (aH zF (bF 5) (ag 3)))))))))) (bv (ga (i:=4) (ag 5))) (bv (fK (aH sW (bF 5) (ag 3)) (bv (ga (i:=4) (aZ (ah (bF 5) (aB 2 (ah (bF 5) (aB 3 (ah (bF 5) ak)))))))) fm)))))
   (bv (mi 4))))
theorem UO:Fn P w K mg base 4 "after_choice" ia:=T.d24.fq T.hX kn ["so_far","row","number","since","left"] 3 λnd hr hu=>
  (am (a8 nd (a7 (f1 T) hr))
   (am (a8 nd (aR (SJ T) hr (aB 0 (ah (bu (ah (a7 (f1 T) hr) ak)) (ah (a7 (f1 T) hr) (aB 3 ak))))))
   (bd (aw aJ (ag 4) (bu (ah (a7 (SI T) hr) ak))))))
theorem UP:Fn P w K mg base 7 "inherited" ko:=T.d25.fq T.hX oj ["book","known","so_far","heirs","number","person","day","told","office","heir"] 5 λnd hr hu=>
  (am (a8 nd (aR (f1 T) hr (ah (aP (ag 0) (ag 4)) (ah aA ak))))
   (am (a8 nd (aR (f2 T) hr (ah (aP (ag 0) (ag 4)) ak)))
   (am (a8 nd (bu ak))
   (am (mm [5,6] (lr (bQ (pR rfl T.n14 T.n13 (fX ["claim","person","day"] (bQ (ag 2)) (eN (jN (l7 (aH (cF hu) (bF 0) (ag 1)) (j4 (bY (a7 (QS T) hr)))))) (bF 0)))) (zo 8 nd) cL (am (a8 nd (EY (D6 hu) (ag 3) (aB 8 (aB 5 ak)) ⟨rfl,rfl,rfl,rfl⟩))
   (bv (fK (jN (l7 (aH ve (ag 9) dO) (j4 (bY (a7 (f11 T) hr))))) (bv (ga (i:=7) (aZ (aB 8 (aB 9 (aB 6 (ah dO (aB 4 ak)))))))) fm)))))
   (bv (mi 7))))))
theorem UQ:Fn P w K mg base 8 "after_death" iS:=T.d26.fq T.hX ls ["book","known","so_far","heirs","number","offices","left"] 5 λnd hr hu=>
  (am (mv ["claim"] nd (bQ (ag 2)) gZ (bF 0))
   (am (a8 nd (aR (SJ T) hr (aB 2 (aB 5 (ah (aR (f1 T) hr (ah (aP (ag 0) (ag 4)) (ah aA ak))) (ah (aR (f2 T) hr (ah (aP (ag 0) (ag 4)) ak)) ak))))))
   (bd (aw aJ (ag 6) (a7 (UP T) hr)))))
theorem QW:Fn P w K mg base 11 "claims" kq:=T.d27.fq T.hX yr ["book","known","so_far","heirs","number","row"] 2 λnd hr hu=>
  (am (a8 nd (bu ak))
   (am (HV (i:=3) nd)
   (am (lr (bQ (a7 (f5 T) hr)) (zo 4 nd) cL (am (a8 nd (aP (ag 0) (ag 4)))
   (am (fK (eO (bY (a7 (UN T) hr))) (bv HB) fm)
   (bv (fK (aH (cF hu) (a7 (f0 T) hr) aA) (bv (a8 nd (aw aJ (ag 2) (bu (ah (aR (SI T) hr (aB 5 (ah (a7 (f2 T) hr) (aB 4 ak)))) ak))))) (bv (fK (aH (cF hu) (a7 (f0 T) hr) aA) (bv (a8 nd (a7 (UO T) hr))) (bv (fK (aH (cF hu) (a7 (f0 T) hr) aA) (bv (HX (i:=3) (D6 hu) (a7 (f1 T) hr) (ah (a7 (f1 T) hr) (ah (a7 (f1 T) hr) ak)))) (bv (a8 nd (a7 (UQ T) hr))))))))))))
   (bd (EJ EH T.n14 (ag 2) (Bg (f6 T) (hr.in1.in1.mono (by decide)) rfl))))))
theorem SK:Fn P w K mg base 2 "is_paper" fz:=T.d28.fq T.hX qF ["book","known","number"] 3 λnd hr hu=>
  (bd (gG (a7 (f8 T) hr) (fJ (cq sX (aR (f0 T) hr (ah (aP (ag 0) (ag 2)) ak)) (xx T.k0)))))
theorem SM:Fn P w K mg base 2 "is_leave" gg:=T.d29.fq T.hX qG ["book","known","number"] 3 λnd hr hu=>
  (bd (gG (a7 (f8 T) hr) (fJ (cq (cF hu) (aR (f0 T) hr (ah (aP (ag 0) (ag 2)) ak)) aA))))
theorem QX:Fn P w K mg base 3 "is_borne" dU:=T.d30.fq T.hX qH ["book","known","number"] 3 λnd hr hu=>
  (bd (Ei (a7 (SM T) hr) (fJ (a7 (SK T) hr))))
theorem SN:Fn P w K mg base 1 "covers" ib:=T.d31.fq T.hX qI ["matters","some"] 2 λnd hr hu=>
  (bd (cq (cF hu) (aw NV (ag 0) (ag 1)) (ag 1)))
theorem SO:Fn P w K mg base 3 "reach_bar" iG:=T.d32.fq T.hX om ["row","above"] 2 λnd hr hu=>
  (am (bX (eO (bY (aR (SN T) hr (ah (a7 (f1 T) hr) (ah (a7 (f1 T) hr) ak))))) aA)
   (am (bX (jN (l7 (aH (cF hu) (a7 (f0 T) hr) aA) (j4 (aH Q8 (a7 (f1 T) hr) (a7 (f1 T) hr))))) aA)
   (bd dO)))
theorem UR:Fn P w K mg base 8 "office_bar" gQ:=T.d33.fq T.hX mC ["claimed","row","root"] 3 λnd hr hu=>
  (am (bX (eO (bY (aR (QU T) hr (aB 0 (aB 2 (ah (a7 (f1 T) hr) (ah (a7 (f2 T) hr) ak))))))) aA)
   (bd (a7 (SO T) hr)))
theorem US:Fn P w K mg base 9 "office_bases" ie:=T.d34.fq T.hX kx ["book","known","claimed","number","row","bearing"] 4 λnd hr hu=>
  (am (a8 nd (aP (ag 0) (ag 3)))
   (am (mv ["root","claimed","row"] nd (Bm (a7 (f7 T) hr)) (eN (aH Em (a7 (UR T) hr) dO)) (ag 0))
   (bd (fX ["root","claimed","row"] (bQ (ag 5)) gZ (aZ (ah aA (ah (a7 (f1 T) hr) (ah (aP (aR (SH T) hr (aB 1 (aB 0 (ah (a7 (f2 T) hr) ak)))) aq) ak))))))))
theorem UT:Fn P w K mg base 1 "ends_within" iT:=T.d35.fq T.hX lu ["stop","bound"] 2 λnd hr hu=>
  (am (bX (aH Em (ag 1) dO) eQ)
   (bd (gG (cq ve (ag 0) dO) (fJ (cq nU (ag 0) (ag 1))))))
theorem UU:Fn P w K mg base 2 "is_within" iH:=T.d36.fq T.hX oq ["one","other"] 2 λnd hr hu=>
  (bd (gG (cq nU (bF 1) (bF 0)) (fJ (aR (UT T) hr (ah (bF 0) (ah (bF 1) ak))))))
theorem SQ:Fn P w K mg base 5 "is_ahead" gh:=T.d37.fq T.hX qJ ["book","one","other"] 3 λnd hr hu=>
  (bd (cq (Ov hu) (a7 (f4 T) hr) (a7 (f4 T) hr)))
theorem UV:Fn P w K mg base 6 "leave_bar" iI:=T.d38.fq T.hX ot ["book","number","leave","row","stretch"] 3 λnd hr hu=>
  (am (a8 nd (aP (ag 0) (ag 1)))
   (am (a8 nd (aR (f1 T) hr (ah (aP (ag 0) (ag 2)) (ah aA ak))))
   (am (bX (eO (bY (a7 (SQ T) hr))) aA)
   (am (bX (jN (iC (eO (bY (aR (SG T) hr (ah (a7 (f2 T) hr) (aB 4 ak))))) (hG (eO (bY (aR (UU T) hr (ah (a7 (f1 T) hr) (aB 4 ak)))))))) aA)
   (bd (aR (SO T) hr (aB 3 (ah (aP (ag 0) (ag 2)) ak))))))))
theorem UW:Fn P w K mg base 3 "leaves_to" ky:=T.d39.fq T.hX ou ["book","known","person","leaves"] 3 λnd hr hu=>
  (am (mv ["number","book","known"] nd (bQ (a7 (f3 T) hr)) (eN (bY (a7 (SM T) hr))) (ag 0))
   (bd (fX ["number","person","book"] (bQ (ag 3)) (eN (aH (cF hu) (aR (f1 T) hr (ah (aP (ag 2) (ag 0)) (ah aA ak))) (ag 1))) (ag 0))))
theorem UX:Fn P w K mg base 7 "leave_bases" iU:=T.d40.fq T.hX lw ["book","known","number","leaves"] 3 λnd hr hu=>
  (am (a8 nd (aR (UW T) hr (aB 0 (aB 1 (ah (aR (f1 T) hr (ah (aP (ag 0) (ag 2)) (ah aA ak))) ak)))))
   (bd (fX ["leave","book","number"] (bQ (ag 3)) (eN (aH Em (a7 (UV T) hr) dO)) (aZ (ah aA (aB 0 ak))))))
theorem UY:Fn P w K mg base 6 "copy_bases" jA:=T.d41.fq T.hX mD ["book","known","number","of"] 3 λnd hr hu=>
  (am (a8 nd (aR (f1 T) hr (ah (aP (ag 0) (ag 2)) (ah aA ak))))
   (am (bX (jN (l7 (bY (a7 (SK T) hr)) (j4 (bY (a7 (SQ T) hr))))) (bu (ah (aZ (ah aA (aB 3 ak))) ak)))
   (bd (bu ak))))
theorem SR:Fn P w K mg base 10 "bases_by" dW:=T.d42.fqL T.hX qK ["book","known","claimed","number","found"] 4 λnd hr hu G=>
  (am (bX (eO (bY (a7 (QX T) hr))) (bu ak))
   (am (bX (aH (cF hu) (aR (f0 T) hr (ah (aP (ag 0) (ag 3)) ak)) aA) (a7 (UY T) hr))
   (am (a8 nd (aw aJ (a7 (US T) hr) (a7 (UX T) hr)))
   (bd (EJ (Fc hu) T.n14 (ag 4) (wc (cap:=[]) (N':=["base"]) (by decide +kernel) T.l42 G rfl rfl (Be (by decide +kernel) rfl rfl rfl rfl rfl) rfl (.nil rfl) rfl hr.in1.in1 (λ_ _ _ _=>rfl) λ_ _ _ _ hr=>have hu:=C3 hr;(aZ (ah (aP (ag 0) (Ef El aq)) (aB 0 ak)))))))))
theorem UZ:Fn P w K mg base 8 "may_call" lK:=T.d43.fq T.hX qL ["book","known","claimed","call","number","row","caller","over"] 5 λnd hr hu=>
  (am (a8 nd (aP (ag 0) (ag 4)))
   (am (a8 nd (aR (f1 T) hr (ah (aP (ag 0) (ag 3)) (ah aA ak))))
   (am (bX (aH (cF hu) (ag 6) (a7 (f1 T) hr)) eQ)
   (am (bX (aH (cF hu) (a7 (f0 T) hr) aA) eQ)
   (am (mv ["root","row"] nd (Bm (a7 (f7 T) hr)) (eN (bY (aR (SN T) hr (ah (a7 (f1 T) hr) (ah (a7 (f1 T) hr) ak))))) (ag 0))
   (bd (bp JM T.n1 JN (ah (fX ["root","claimed","caller","book","call"] (bQ (ag 7)) gZ (aR (QU T) hr (aB 1 (aB 0 (aB 2 (ah (aR (f2 T) hr (ah (aP (ag 3) (ag 4)) ak)) ak)))))) ak))))))))
theorem Va:Fn P w K mg base 10 "calls_in" jB:=T.d44.fq T.hX qM ["book","known","claimed","call","number","day","row"] 6 λnd hr hu=>
  (am (a8 nd (aP (ag 0) (ag 3)))
   (am (bX (jN (iC (aH (zG hu) (a7 (f0 T) hr) aA) (iC (aH (zG hu) (a7 (f1 T) hr) (ag 4)) (hG (aH zF (a7 (f2 T) hr) (ag 5)))))) eQ)
   (bd (gG (a7 (P9 T) hr) (fJ (a7 (UZ T) hr))))))
theorem SS:Fn P w K mg base 11 "calls_by" jC:=T.d45.fq T.hX qN ["book","known","claimed","number","day"] 5 λnd hr hu=>
  (am (bX (eO (bY (a7 (QX T) hr))) (bu ak))
   (bd (fX ["call","book","known","claimed","number","day"] (bQ (a7 (f3 T) hr)) (eN (bY (a7 (Va T) hr))) (ag 0))))
theorem Vb:Fn P w K mg base 12 "is_fit" mE:=T.d46.fq T.hX yt ["book","known","claimed","number","day"] 5 λnd hr hu=>
  (am (bX (jN (iC (eO (bY (a7 (P9 T) hr))) (hG (aH zF (aR (f2 T) hr (ah (aP (ag 0) (ag 3)) ak)) (ag 4))))) eQ)
   (bd (cq (cF hu) (bp eU T.n7 eV (ah (a7 (SS T) hr) ak)) aq)))
theorem QY:Fn P w K mg base 13 "links" jD:=T.d47.fq T.hX B3 ["book","known","day","claimed","found","number"] 3 λnd hr hu=>
  (am (Ho (i:=3) nd (a7 (QW T) hr))
   (am (Bl (i:=4) nd)
   (am (lr (bQ (a7 (f5 T) hr)) (zo 5 nd) cL (bv (fK (jN (l7 (bY (a7 (QX T) hr)) (j4 (bY (a7 (Vb T) hr))))) (bv (Fg (i:=4) (D6 hu) (a7 (SR T) hr) (ag 5))) fm)))
   (bv (mi 4)))))
theorem SU:Fn P w K mg base 1 "bears" jE:=T.d48.fq T.hX B4 ["base","among"] 2 λnd hr hu=>
  (bd (Ei (cq (cF hu) (bF 0) aA) (fJ (Fh (D6 hu) (bF 0) (ag 1)))))
theorem SW:Fn P w K mg base 2 "stood" kT:=T.d49.fq T.hX B5 ["found","stands","number","resting"] 1 λnd hr hu=>
  (am (Bl (i:=1) nd)
   (am (lr (Ff (ag 0)) (zt rfl (jb (zo 2 nd) (jb (zo 3 nd) ut))) Oi (bv (fK (bY (bp JM T.n1 JN (ah (fX ["base","stands"] (bQ (ag 3)) gZ (a7 (SU T) hr)) ak))) (bv (HW (i:=1) (D6 hu) eQ (ag 2))) fm)))
   (bv (mi 1))))
theorem Vc:Fn P w K mg base 14 "standing" lL:=T.d50.fq T.hX qO ["book","known","day"] 3 λnd hr hu=>
  (bd (bp (CW rfl) T.n14 xQ (ah (aR (SW T) hr (ah (a7 (QY T) hr) ak)) ak)))
theorem SX:Fn P w K mg base 2 "first_bearer" da:=T.d51.fq T.hX k6 ["resting","stands"] 2 λnd hr hu=>
  (bd (aP (fX ["base","stands"] (bQ (ag 0)) (eN (bY (a7 (SU T) hr))) (ag 0)) aq))
theorem Vd:Fn P w K mg base 14 "chain" pb:=T.d52.fq T.hX B6 ["book","known","day","number","found","stands","told","bearer"] 4 λnd hr hu=>
  (am (a8 nd (a7 (QY T) hr))
   (am (a8 nd (a7 (SW T) hr))
   (am (bX (CM (D6 hu) (ag 3) (ag 5)) dO)
   (am (a8 nd (bu (aB 3 ak)))
   (am (a8 nd (aR (SX T) hr (ah (wh (D6 hu) (ag 4) (ag 3) (by intro _ _;rfl)) (aB 5 ak))))
   (am (Ek 1000 PassesOwn.never (aH (zG hu) (bF 7) aA) (am (ga (i:=6) (bF 7))
   (bv (a8 nd (aR (SX T) hr (ah (wh (D6 hu) (ag 4) (bF 7) (by intro _ _;rfl)) (aB 5 ak)))))))
   (am (ga (i:=6) (bF 7))
   (bd (Ah rfl T.n8 T.n12 (ag 6))))))))))
theorem Ve:Fn P w K mg base 1 "is_begun" jF:=T.d53.fq T.hX qP ["resting","first"] 2 λnd hr hu=>
  (bd (cq sX (ag 1) (fX ["base"] (bQ (ag 0)) (eN (aH (cF hu) (bF 0) aA)) (bF 0))))
theorem Vf:Fn P w K mg base 1 "is_linked" iJ:=T.d54.fq T.hX oy ["resting","ahead"] 2 λnd hr hu=>
  (bd (cq sX (ag 1) (fX ["base"] (bQ (ag 0)) (eN (aH (zG hu) (bF 0) aA)) (bF 0))))
theorem Vg:Fn P w K mg base 14 "is_chain" lM:=T.d55.fq T.hX qQ ["book","known","day","numbers","found"] 4 λnd hr hu=>
  (am (a8 nd (a7 (QY T) hr))
   (am (bX (jN (iC (aH sW (bp eU T.n7 eV (aB 3 ak)) aq) (hG (eO (bY (bp JL T.n0 JJ (ah (fX ["number","found"] (bQ (cN (ag 3) (dE aq) dD)) gZ (Fh (D6 hu) (ag 0) (ag 1))) ak))))))) eQ)
   (am (bX (eO (bY (aR (Ve T) hr (ah (wh (D6 hu) (ag 4) (bF 3) (by intro _ _;rfl)) (ah (bF 3) ak))))) eQ)
   (bd (bp JL T.n0 JJ (ah (fX ["ahead","number","found"] (Ii T.n16 (cN (ag 3) (dE aq) dD) (cN (ag 3) (dE aq) dD)) gZ (aR (Vf T) hr (ah (wh (D6 hu) (ag 2) (ag 1) (by intro _ _;rfl)) (aB 0 ak)))) ak))))))
theorem zf:Fn P w K mg base 1 "_law_cell" bA:=T.d56.fq T.hX yw ["_law_script","_law_k","_law_cell_here"] 2 λnd hr hu=>
  (am (a8 nd aq)
   (am (fK (aH zF (bp eU T.n7 eV (aB 0 ak)) aq) (bv (a8 nd (aP (ag 0) (aw bE (ag 1) (bp eU T.n7 eV (aB 0 ak)))))) fm)
   (am (a8 nd (aw bE (aw cG (aw aJ (aw aJ (aw bE (ag 2) aq) (aw cG aq (ag 1))) aq) aq) aq))
   (bd (aw bE (aw cG (ag 2) (aw aJ (aw aJ (aw bE (ag 2) aq) (ag 1)) aq)) aq)))))
theorem Vh:Fn P w K mg base 1 "_law_names" nB:=T.d57.fq T.hX tW ["_law_cell_here","_law_letters","_law_base","_law_at","_law_names_here","_law_k","_law_name"] 1 λnd hr hu=>
  (am (a8 nd aA)
   (am (mv ["_law_k","_law_letters","_law_cell_here"] nd (xA T.n11 (aw aJ aq (aw bE (ag 0) aq))) gZ (aP (ag 1) (aw bE (aw bL (ag 2) (aw aJ aq (aw cG aq (ag 0)))) aq)))
   (am (a8 nd (aw bE (aw bL (ag 0) aq) (bp eU T.n7 eV (aB 2 ak))))
   (am (a8 nd (bu ak))
   (am (yh (jV T.n11 aq) (zo 5 nd) cL (am (a8 nd (gS zL T.n8 vh (aB 2 ak)))
   (am (E2 (i:=6) (aP (ag 1) (aw bE (aw aJ (aw bL (ag 0) aq) (aw cG aq (ag 5))) aq)) (ag 3))
   (bv (ga (i:=4) (L9 PySem.F.slot_str_join PySem.F.type_str_join LB Ex aA (ag 6)))))))
   (am (fK (aH (cF hu) (aw bE (aw bL (ag 0) aq) aq) aq) (bv (E2 (i:=4) (bF 4) aq)) fm)
   (bv (mi 4))))))))
theorem SY:Fn P w K mg base 1 "_law_stretch" gD:=T.d58.fq T.hX oz ["_law_cell_here","_law_day","_law_measure","_law_some"] 3 λnd hr hu=>
  (am (a8 nd (bu (ah (aZ (bU (ah dO ak))) (ah (aZ (aB 1 (ah dO ak))) (ah (aZ (aB 1 (ah (aw aJ (ag 1) (aw cG aq (ag 2))) ak))) (ah (aZ (bU (ah (aw aJ (ag 1) (aw cG aq (ag 2))) ak))) (ah (aZ (bU (ah (aw cG aq (ag 2)) ak))) ak)))))))
   (am (a8 nd (aw aJ (ag 3) (bu (ah (aZ (ah (aw aJ (ag 1) (ag 2)) (ah (aw aJ (ag 1) (aw cG aq (ag 2))) ak))) (ah (aZ (ah (aw bL (ag 1) aq) (ah (aw aJ (ag 1) (aw cG aq (ag 2))) ak))) (ah (aZ (bU (ah dO ak))) ak))))))
   (bd (aP (ag 3) (aw bE (ag 0) aq)))))
theorem Vi:Fn P w K mg base 2 "_law_deed" qR:=T.d59.fq T.hX yx ["_law_many","_law_cell_here","_law_other","_law_names_here","_law_day","_law_had","_law_measure","_law_kinds","_law_word","_law_by","_law_person","_law_of","_law_matters","_law_further","_law_start"] 7 λnd hr hu=>
  (am (a8 nd (aw aJ (aw aJ (EW (bu (ah aA ak)) aq) (EW (bu (ah aA ak)) aq)) (bu (ah aA (ah aA (ah aA (ah aA (ah aA ak))))))))
   (am (a8 nd (aw aJ (ag 7) (bu (ah aA (ah aA (ah aA (ah aA (ah aA (ah aA ak)))))))))
   (am (a8 nd (aP (ag 7) (aw bE (ag 1) aq)))
   (am (a8 nd (aP (ag 5) (aw pE (Ef El aq) (aw bE (aw bL (ag 1) aq) (bp Od T.n10 Oa (bU (ah (bp eU T.n7 eV (aB 5 ak)) ak)))))))
   (am (fK (aH (cF hu) (aw bE (aw bL (ag 1) aq) aq) aq) (bv (a8 nd (aP (ag 3) (aw bE (aw bL (ag 1) aq) aq)))) fm)
   (am (a8 nd (aP (ag 3) (aw bE (aw bL (ag 1) aq) aq)))
   (am (a8 nd (bp Oc T.n9 NZ (bU (ah (aw pE (aw pE (ag 0) aq) (aw bE (ag 2) aq)) ak))))
   (am (fK (aH (cF hu) (aw bE (aw bL (ag 2) aq) aq) aq) (bv (a8 nd (aw bE (aw bL (ag 2) aq) aq))) fm)
   (am (fK (aH (cF hu) (ag 8) aA) (am (a8 nd (by refine aP (hs:=?_) ?_ ?_;refine bu ?_;refine bU ?_;refine bU ?_;refine bU ?_;refine bU ?_;refine bU ?_;refine bU ?_;refine bU ?_;refine bU ?_;exact ak;exact(aw bE (aw bL (ag 1) aq) aq);intro _ _;rfl))
   (am (a8 nd (aw bE (aw bL (ag 2) aq) (aP (bu (bU (bU (bU (bU ak))))) (aw bE (aw bL (ag 2) aq) aq))))
   (bd (aZ (aB 8 (aB 4 (aB 9 (aB 10 (aB 12 (ah (aR (SY T) hr (ah (aw bL (ag 2) aq) (aB 4 (aB 6 ak)))) (aB 13 ak))))))))))) fm)
   (am (fK (jN (iC (aH (cF hu) (ag 8) aA) (hG (aH (cF hu) (ag 8) aA)))) (am (a8 nd (by refine aP (hs:=?_) ?_ ?_;refine bu ?_;refine bU ?_;refine bU ?_;refine bU ?_;refine bU ?_;refine bU ?_;refine bU ?_;refine bU ?_;refine bU ?_;exact ak;exact(aw bE (aw bL (ag 1) aq) aq);intro _ _;rfl))
   (am (a8 nd (aZ (aB 8 (aB 4 (aB 9 (aB 12 (ah (aR (SY T) hr (ah (aw bL (ag 2) aq) (aB 4 (aB 6 ak)))) (ah (aP (bu (ah dO (aB 10 ak))) (aw bE (aw bL (ag 2) aq) aq)) ak))))))))
   (am (bX (aH (cF hu) (ag 8) aA) (aw EN (ag 14) (aZ (aB 11 (ah (aZ (ah (aZ (bU (aB 10 ak))) ak)) ak)))))
   (bd (aw EN (ag 14) (aZ (ah (aZ (aB 10 ak)) ak))))))) fm)
   (am (bX (aH sX (ag 8) (aZ (ah aA (ah aA ak)))) (aZ (aB 8 (aB 4 (aB 9 (aB 11 ak))))))
   (am (bX (aH (cF hu) (ag 8) aA) (aZ (aB 8 (aB 4 (ah (aP (ag 3) (aw aJ aq (aw bE (ag 2) aq))) (aB 10 ak))))))
   (am (bX (aH (cF hu) (ag 8) aA) (aZ (aB 8 (aB 4 (aB 9 (ah (aP (ag 3) (aw aJ aq (aw bE (ag 2) aq))) (aB 10 (ah (aw aJ (ag 4) (aw cG (aw bE (aw bL (ag 2) aq) aq) (ag 6))) ak))))))))
   (am (bX (aH (cF hu) (ag 8) aA) (aZ (aB 8 (aB 4 (aB 9 (ah (aP (ag 3) (aw aJ aq (aw bE (ag 2) aq))) (aB 10 ak)))))))
   (bd (aZ (aB 8 (aB 4 (aB 9 ak)))))))))))))))))))
theorem Vj:Fn P w K mg base 3 "_law_rows" qS:=T.d60.fq T.hX yy ["_law_script","_law_names_here","_law_measure","_law_most","_law_head","_law_rows_here","_law_had","_law_k","_law_rule","_law_matters","_law_late","_law_further","_law_cell_here","_law_day","_law_deed_here"] 4 λnd hr hu=>
  (am (a8 nd (aR (zf T) hr (aB 0 (bU ak))))
   (am (a8 nd (bu ak))
   (am (a8 nd (bu ak))
   (am (yh (jV T.n11 (aw aJ aq (aw bE (ag 4) aq))) (zo 7 nd) cL (am (a8 nd (aP (bu (ah aA (ah aA (ah aA ak)))) (aw bE (aw bL (ag 4) (aw aJ aq (aw cG aq (ag 7)))) aq)))
   (am (a8 nd (aP (bu (bU (bU (bU (bU ak))))) (aw bE (aw bL (ag 4) (aw aJ aq (aw cG aq (ag 7)))) aq)))
   (am (a8 nd (aw cG (aw cG (gS Om T.n5 Ob (ah (cq (cF hu) (aw bE (aw bL (ag 4) (aw aJ aq (ag 7))) aq) aq) ak)) aq) (ag 2)))
   (am (a8 nd (aw bE (aw bL (ag 4) (aw aJ aq (aw cG aq (ag 7)))) (aP (bu (bU (bU (bU ak)))) (aw bE (aw bL (ag 4) (aw aJ aq (ag 7))) aq))))
   (am (ga (i:=5) (aZ (aB 10 (ah (aZ (ah aA (ah (aP (ag 1) (aw aJ aq (ag 7))) (aB 9 (aB 11 (aB 8 ak)))))) ak))))
   (am (ga (i:=5) (aZ (bU (ah (aZ (ah aA (bU (ah (aP (ag 1) (aw aJ aq (ag 7))) (ah (aP (ag 1) (ag 7)) ak))))) ak))))
   (bv (ga (i:=6) (aP (ag 1) (ag 7)))))))))))
   (am (yh (jV T.n11 (aw aJ aq (aw bE (aR (zf T) hr (aB 0 (bU ak))) (ag 3)))) (zo 7 nd) cL (am (a8 nd (aR (zf T) hr (aB 0 (ah (aw aJ aq (ag 7)) ak))))
   (am (a8 nd (aw cG (aw aJ (aw bL (ag 7) aq) (aw bE (aw bL (ag 12) aq) aq)) (ag 2)))
   (am (a8 nd (aR (Vi T) hr (ah (bp eU T.n7 eV (aB 5 ak)) (ah (aR (zf T) hr (aB 0 (ah (aw aJ aq (ag 7)) ak))) (ah (aR (zf T) hr (aB 0 (ah (aw aJ aq (ag 7)) ak))) (aB 1 (aB 13 (aB 6 (aB 2 ak)))))))))
   (am (fK (aH sX (bF 14) (aZ (ah aA (ah aA ak)))) (bv (ga (i:=6) (bF 14))) fm)
   (am (fK (aH (cF hu) (bF 14) aA) (bv (ga (i:=6) (bF 14))) fm)
   (bv (ga (i:=5) (aZ (ah (aw aJ (ag 13) (aw cG (by refine aP (hs:=?_) ?_ ?_;refine bu ?_;refine bU ?_;refine bU ?_;refine bU ?_;refine bU ?_;refine bU ?_;refine bU ?_;exact ak;exact(aw bE (aw bL (ag 12) aq) aq);intro _ _;rfl) (ag 2))) (aB 14 ak)))))))))))
   (bd (gS HC T.n15 Ht (aB 5 ak))))))))
theorem Vk:Fn P w K mg base 12 "bases" mF:=T.d61.fq T.hX B7 ["book","known","number"] 3 λnd hr hu=>
  (bd (aR (SR T) hr (aB 0 (aB 1 (ah (a7 (QW T) hr) (aB 2 ak))))))
theorem Vl:Fn P w K mg base 12 "calls" wv:=T.d62.fq T.hX B8 ["book","known","number","day"] 4 λnd hr hu=>
  (bd (aR (SS T) hr (aB 0 (aB 1 (ah (a7 (QW T) hr) (aB 2 (aB 3 ak)))))))
theorem Vm:Fn P w K mg base 13 "_law_free" mG:=T.d63.fq T.hX yz ["_law_rows_here","_law_known","_law_day","_law_number"] 4 λnd hr hu=>
  (am (bX (jN (iC (eO (Eh nU sW aq (ag 3) (bp eU T.n7 eV (aB 0 ak)))) (hG (aH zF (aP (aP (ag 0) (ag 3)) aq) (ag 1))))) eQ)
   (am (bX (jN (iC (aH jT (aP (aP (aP (ag 0) (ag 3)) aq) aq) (aZ (ah aA (ah aA (ah aA (ah aA ak)))))) (hG (aH zF (aP (aP (aP (ag 0) (ag 3)) aq) aq) (ag 2))))) eQ)
   (bd (gG (a7 (P9 T) hr) (fJ (cq (cF hu) (a7 (Vl T) hr) (bu ak)))))))
theorem Vn:Fn P w K mg base 14 "_law_due" pe:=T.d64.fq T.hX B9 ["_law_rows_here","_law_known","_law_day","_law_numbers","_law_number","_law_at","_law_there","_law_base"] 4 λnd hr hu=>
  (am (bX (aH sW (bp eU T.n7 eV (aB 3 ak)) aq) eQ)
   (am (lr (bQ (cN (ag 3) (dE aq) dD)) (zo 4 nd) cL (bv (bX (eO (bY (a7 (Vm T) hr))) eQ)))
   (am (yh (CL T.n11 aq (bp eU T.n7 eV (aB 3 ak))) (zo 5 nd) cL (am (a8 nd (bu ak))
   (am (mm [5] (lr (bQ (aR (Vk T) hr (aB 0 (aB 1 (ah (aP (ag 3) (ag 5)) ak))))) (zo 7 nd) cL (bv (fK (aH (cF hu) (cq (cF hu) (bF 7) aA) (cq (cF hu) (ag 5) aq)) (bv (ga (i:=6) (aP (ag 7) (Ef El aq)))) fm))))
   (bv (bX (aH jT (aP (ag 3) (aw pE (ag 5) aq)) (ag 6)) eQ)))))
   (bd eQ))))
theorem Ta:Fn P w K mg base 1 "_law_bent" k8:=T.d65.fq T.hX y6 ["_law_cell_here","_law_numbers","_law_many","_law_at","_law_more","_law_lower","_law_upper","_law_some"] 3 λnd hr hu=>
  (am (a8 nd (aw bE (aw bL (ag 0) aq) (bp eU T.n7 eV (aB 1 ak))))
   (am (a8 nd (aw pE (aw bE (aw bL (ag 0) aq) (aw aJ (ag 2) aq)) aq))
   (am (a8 nd (cN (ag 1) dD (dE (ag 3))))
   (am (a8 nd (cN (ag 1) (dE (ag 3)) dD))
   (am (a8 nd (bu (ah (aw aJ (ag 5) (cN (ag 6) (dE aq) dD)) (ah (aw aJ (aw aJ (ag 5) (bu (aB 4 ak))) (ag 6)) ak))))
   (am (a8 nd (aw aJ (ag 7) (bu (ah (aw aJ (aw aJ (ag 5) (cN (ag 6) dD (dE aq))) (ag 6)) (ah (aw aJ (aw aJ (ag 5) (bu (aB 4 ak))) (cN (ag 6) (dE aq) dD)) ak)))))
   (am (a8 nd (aw aJ (ag 7) (bu (ah (O2 (ag 1)) (ah (aw aJ (bu (aB 4 ak)) (cN (ag 1) (dE aq) dD)) ak)))))
   (bd (aP (aw aJ (ag 7) (bu (ah (aw aJ (ag 1) (bu (aB 4 ak))) (ah (gS zL T.n8 vh (aB 1 ak)) ak)))) (aw bE (ag 0) aq))))))))))
theorem head {fa:Addr}(M:mg "law" = some (.ref fa)):∃fd:FuncData,(∀(s:Shared)(u:Value),BindsTo s fd ⟨[u],[]⟩ [("_law_script",u)])/\∀base:Heap,K.In base->base.Ns mainGlobals mg->su P w K mg base zi 15 fa fd ["_law_script"] (Hr K F_law):=by
 have S:FnScope ["_law_script","_law_names_here","_law_measure","_law_rows_here","_law_known","_law_day","_law_lists","_law_k","_law_more","_law_some","_law_at","_law_number","_law_told","_law_numbers","_law_handed","_law_when","_law_found","_law_due_here"] ["_law_script"] (aT (eK 76)):=by refine⟨rfl,rfl,rfl,?_,rfl,?_,?_⟩<;>decide +kernel
 have ⟨h,X,G⟩:=T.hX;exact dj.law T.d66 X G M S (λ_ _ _ _ _ _ u=>rfl) λbase O U f eP A outer s H E hr=>have hu:=C3 hr;have nd:=S.nd;(show uE _ _ JZ from
  (am (a8 nd (aR (Vh T) hr (ah (aR (zf T) hr (aB 0 (bU ak))) ak)))
   (am (a8 nd (aP (bu (bU (bU (bU ak)))) (aw bE (aR (zf T) hr (aB 0 (bU ak))) aq)))
   (am (a8 nd (aR (Vj T) hr (aB 0 (aB 1 (aB 2 (bU ak))))))
   (am (a8 nd (aP (bu (bU (ah (aw cG (aw bE (aw bL (aR (zf T) hr (aB 0 (bU ak))) aq) aq) (ag 2)) ak))) (aw bL (aw bE (aR (zf T) hr (aB 0 (bU ak))) aq) aq)))
   (am (a8 nd (aP (bu (bU (ah (aw cG (aw bE (aw bL (aR (zf T) hr (aB 0 (bU ak))) aq) aq) (ag 2)) ak))) (aw bE (aR (zf T) hr (aB 0 (bU ak))) aq)))
   (am (Ij (i:=6) nd (ah (bu ak) (ah (bu (ah (aw pE (aw bE (aR (zf T) hr (aB 0 (bU ak))) (aw aJ (bp eU T.n7 eV (aB 3 ak)) aq)) aq) ak)) ak)))
   (am (yh (jV T.n11 aq) (zo 7 nd) cL (am (mv ["_law_j","_law_script","_law_k"] nd (xA T.n11 (aw aJ aq (ag 7))) gZ (aR (zf T) hr (aB 1 (ah (aw aJ (aw aJ aq (aw cG aq (ag 2))) (ag 0)) ak))))
   (bv (mm [3,8] (oU (i:=6) (fX ["_law_cell_here","_law_rows_here"] (bQ (ag 8)) gZ (aw pE (aw bE (ag 0) (aw aJ (bp eU T.n7 eV (aB 1 ak)) aq)) aq)))))))
   (am (a8 nd (a7 (Vc T) hr))
   (am (a8 nd (aw bE (aR (zf T) hr (aB 0 (bU ak))) (aw aJ (bp eU T.n7 eV (aB 9 ak)) aq)))
   (am (mm [9,10] (lr (bQ (cN (aw aJ (cN (ag 9) (dE (ag 10)) dD) (cN (ag 9) dD (dE (ag 10)))) dD (dE aq))) (zo 11 nd) cL (am (a8 nd (a7 (Vd T) hr))
   (am (mm [12] (oU (i:=6) (ag 12)))
   (am (mm [3,11,12] (oU (i:=6) (aR (Ta T) hr (ah (aR (zf T) hr (aB 0 (ah (aw aJ aq (ag 11)) ak))) (aB 12 (ah (bp eU T.n7 eV (aB 3 ak)) ak))))))
   (bv (mm [3,11,12] (oU (i:=6) (aR (Ta T) hr (ah (aR (zf T) hr (aB 0 (ah (aw aJ aq (ag 11)) ak))) (aB 12 (ah (bp eU T.n7 eV (aB 3 ak)) ak))))))))))))
   (am (mm [6] (lr (bQ (ag 6)) (zo 13 nd) cL (am (a8 nd (gS zL T.n8 vh (aB 13 ak)))
   (bv (mm [2,5] (lr (bQ (aZ (aB 5 (ah (aw cG (aw bE (aR (zf T) hr (aB 0 (bU ak))) aq) (ag 2)) ak)))) (zo 15 nd) cL (am (a8 nd (a7 (Vg T) hr))
   (am (a8 nd (a7 (Vn T) hr))
   (bv (bX (jN (iC (eO (bY (bp vi T.n6 vg (aB 16 (ah (NY T.n2 L0) ak))))) (iC (aH (zG hu) (ag 16) (ag 17)) (hG (aH (zG hu) (ag 14) (ag 13)))))) eQ))))))))))
   (bd eQ)))))))))))))
end
end Lw
end
namespace PySem.W.Fast
def tw2912172942328603782:=()
def tw15438931459753939201:=()
def tw13270208620815503996:=()
def tw13172340667157785766:=()
def tw6249617415706817100:=()
def tw2958582412494172342:=()
def tw5177240258632724186:=()
def tw16497119675726210047:=()
def tw13251047739360456:=()
def tw8346681931958236331:=()
def tw3215845679404492049:=()
def tw6892710762802913764:=()
def tw6849147523014697250:=()
def tw14569769970882321221:=()
def tw6421056491719600876:=()
def tw5723580428377712438:=()
def tw17846573030170902951:=()
def tw1620957627378912480:=()
def tw14808471525607359502:=()
def tw6549762041316042271:=()
def tw14230983043697859581:=()
def tw13797719521858777365:=()
def tw5262418896447977129:=()
def tw9736083974469216632:=()
def tw13417412659613954267:=()
def tw11262585300473687952:=()
def tw17240179459313510936:=()
def tw6311372546925281866:=()
def tw4197984102273770683:=()
def tw16758226917977823960:=()
def tw4128238414352661698:=()
def tw15521824541153979013:=()
def tw2198967129930759788:=()
def tw14937982860580211597:=()
def tw10191627701956195733:=()
def tw16528255842493781595:=()
def tw5720943154980891486:=()
def tw10983804911125190803:=()
def tw16351151549575031818:=()
def tw7205047144017168642:=()
def tw12041894718340352613:=()
def tw8787064704713521476:=()
def tw18396260758332236104:=()
def tw11160400471704845119:=()
def tw16188671371533471581:=()
def tw10375639458390259743:=()
def tw12603113646186279619:=()
def tw6389044166252895793:=()
def tw8600279283993933436:=()
def tw18385106383303410149:=()
def tw17961762535203402496:=()
def tw8229391627376829603:=()
def tw482463995845922969:=()
def tw8372433985488889924:=()
def tw6850444876726076218:=()
def tw1682148840754034021:=()
def tw1035691033248505142:=()
def tw17181565860549600805:=()
def tw15864234327537514418:=()
def tw3265027214284612463:=()
def tw10002664563858822331:=()
def tw5438157833492190310:=()
def tw2237718258306144268:=()
def tw11838110797683160043:=()
def tw7112257814850634695:=()
def tw6662186049157088285:=()
def tw9816833781311196659:=()
def tw17399598365366787273:=()
def tw860106404855535661:=()
def tw13213937658980771704:=()
def tw8855917348323751174:=()
def tw12169340503603137810:=()
def tw9444138250336450429:=()
def tw1444034286419233557:=()
def tw15231896396399447052:=()
def tw16390456282219566204:=()
def tw17530067978183168066:=()
def tw5334353406082577385:=()
def tw9639304840716260045:=()
def tw3851602250671542843:=()
def tw17146771643798837177:=()
def tw5322936026068039406:=()
def tw13832980011484162425:=()
def tw14082663213360968940:=()
def tw7673745910239837219:=()
def tw13286089367890695825:=()
def tw12278834734408421959:=()
def tw14594332454297321808:=()
def tw9213992443308647435:=()
def tw11310914146494540632:=()
def tw5571772115654420311:=()
def tw17631488044163662678:=()
def tw3891282822460110436:=()
def tw1181228647391311858:=()
def tw5486464004781496285:=()
def tw11400064071450126797:=()
def tw5549909711670767573:=()
def tw11922072300896062863:=()
def tw7447421972310907193:=()
def tw3228672025616514494:=()
def tw8625356895957761121:=()
def tw14886818471018789423:=()
def tw4839977037465914060:=()
def tw4692481522790328555:=()
def tw13789856031854270353:=()
def tw17699425180024837284:=()
def tw5107727179621107303:=()
def tw12117427351655351559:=()
def tw8277940328826530526:=()
def tw16163832799953486931:=()
def tw14995132711071158775:=()
def tw12585952520102027476:=()
def tw5519962360407938451:=()
def tw2622606750609934124:=()
def tw4705194124045349156:=()
def tw12803174390227059451:=()
def tw17500411063836249023:=()
def tw14768529422430918882:=()
def tw1954817239322785004:=()
def tw17316642266460869913:=()
def tw12512075474770225167:=()
def tw17959389825524836013:=()
def tw17450861789024388440:=()
def tw1498298587686488990:=()
def tw18008064833959147776:=()
def tw4734544968608210198:=()
def tw5098432966093023763:=()
def tw13933340053549276722:=()
def tw5764265523235958817:=()
def tw9492139386479268605:=()
def tw3888199962462772819:=()
def tw14073251023592667080:=()
def tw1149230430237993763:=()
def tw1452558024037624737:=()
def tw7553886398618775385:=()
def tw16241670325318294462:=()
def tw579296476066492625:=()
def tw12911302241997286805:=()
def tw5428136023432143538:=()
def tw9304850381577663868:=()
def tw958011251075974194:=()
end PySem.W.Fast
open PySem PySem.W PyProof.Rows
set_option maxRecDepth 100000 in
set_option maxHeartbeats 0 in
theorem PySem.Challenge.cw_sealchain_k30_lists_that_are_chains_holds : PySem.Challenge.rw_sealchain_k30_lists_that_are_chains.Holds := by
 w_on; o_law; k_head; (case hw => w_witness2)
 k_fill
 refine' DL.walkD (l := PySem.Challenge.rw_sealchain_k30_lists_that_are_chains) (k := 15) (x := ("_law_script" : PySem.Str)) (f := Lw.F_law) (L := [(("in_order" : PySem.Str), ?t0), (("has_seal" : PySem.Str), ?t1), (("is_first_death" : PySem.Str), ?t2), (("bases_by" : PySem.Str), ?t3)]) rfl rfl ⟨rfl, by decide, by decide⟩ (fun w h Y => PySem.W.km_in_of Y) ?T ?D ?F Lw.law_true
 case T =>
  intro w
  refine' DL.tabs_fit ?h0 ?h1 ?h2 ?h3 ?ap ?nt
  iterate 4 (refine' DL.tab_yes ?a ?l ?c ?m ?v; (case a => k_is); (case l => k_is); (case c => exact rfl); (case m => k_is); (case v => exact rfl))
  (case ap => decide)
  (case nt => kernel_rfl)
 case D => kernel_rfl
 case F =>
  intro w mg fa h KX G hmg
  refine' Lw.head ⟨⟨h, KX, G⟩, ?d0, ?d1, ?d2, ?d3, ?d4, ?d5, ?d6, ?d7, ?d8, ?d9, ?d10, ?d11, ?d12, ?d13, ?d14, ?d15, ?d16, ?d17, ?d18, ?d19, ?d20, ?d21, ?d22, ?d23, ?d24, ?d25, ?d26, ?d27, ?d28, ?d29, ?d30, ?d31, ?d32, ?d33, ?d34, ?d35, ?d36, ?d37, ?d38, ?d39, ?d40, ?d41, ?d42, ?d43, ?d44, ?d45, ?d46, ?d47, ?d48, ?d49, ?d50, ?d51, ?d52, ?d53, ?d54, ?d55, ?d56, ?d57, ?d58, ?d59, ?d60, ?d61, ?d62, ?d63, ?d64, ?d65, ?d66, PySem.W.mg_none_of KX G ?z0, PySem.W.mg_none_of KX G ?z1, PySem.W.mg_none_of KX G ?z2, PySem.W.mg_none_of KX G ?z3, PySem.W.mg_none_of KX G ?z4, PySem.W.mg_none_of KX G ?z5, PySem.W.mg_none_of KX G ?z6, PySem.W.mg_none_of KX G ?z7, PySem.W.mg_none_of KX G ?z8, PySem.W.mg_none_of KX G ?z9, PySem.W.mg_none_of KX G ?z10, PySem.W.mg_none_of KX G ?z11, PySem.W.mg_none_of KX G ?z12, PySem.W.mg_none_of KX G ?z13, PySem.W.mg_none_of KX G ?z14, PySem.W.mg_none_of KX G ?z15, PySem.W.mg_none_of KX G ?z16, DL.kc_of KX G ?k0, DL.kd_of KX G ?k1, DL.kc_of KX G ?k2, ?q0, ?q1, ?q2, ?q3⟩ hmg
  iterate 67 (refine' DL.def_mk ?a ?l ?c ?k; (case a => k_is); (case l => k_is); (case c => k_is); (case k => k_is))
  (case z0 => k_is)
  (case z1 => k_is)
  (case z2 => k_is)
  (case z3 => k_is)
  (case z4 => k_is)
  (case z5 => k_is)
  (case z6 => k_is)
  (case z7 => k_is)
  (case z8 => k_is)
  (case z9 => k_is)
  (case z10 => k_is)
  (case z11 => k_is)
  (case z12 => k_is)
  (case z13 => k_is)
  (case z14 => k_is)
  (case z15 => k_is)
  (case z16 => k_is)
  (case k0 => refine' DL.const_tup ?e ?l ?v; (case e => k_is); (case l => k_is); (case v => decide +kernel))
  (case k1 => refine' DL.const_dict ?e ?l ?r ?s; (case e => k_is); (case l => k_is); (case r => refine' (DL.CRows.tup rfl ?l0 ?f0 (DL.CRows.tup rfl ?l1 ?f1 (DL.CRows.tup rfl ?l2 ?f2 (DL.CRows.tup rfl ?l3 ?f3 (DL.CRows.tup rfl ?l4 ?f4 (DL.CRows.tup rfl ?l5 ?f5 (DL.CRows.tup rfl ?l6 ?f6 (DL.CRows.tup rfl ?l7 ?f7 (DL.CRows.tup rfl ?l8 ?f8 (DL.CRows.tup rfl ?l9 ?f9 (DL.CRows.tup rfl ?l10 ?f10 (DL.CRows.tup rfl ?l11 ?f11 DL.CRows.nil)))))))))))); (case l0 => k_is); (case f0 => decide +kernel); (case l1 => k_is); (case f1 => decide +kernel); (case l2 => k_is); (case f2 => decide +kernel); (case l3 => k_is); (case f3 => decide +kernel); (case l4 => k_is); (case f4 => decide +kernel); (case l5 => k_is); (case f5 => decide +kernel); (case l6 => k_is); (case f6 => decide +kernel); (case l7 => k_is); (case f7 => decide +kernel); (case l8 => k_is); (case f8 => decide +kernel); (case l9 => k_is); (case f9 => decide +kernel); (case l10 => k_is); (case f10 => decide +kernel); (case l11 => k_is); (case f11 => decide +kernel)); (case s => decide +kernel))
  (case k2 => refine' DL.const_tup ?e ?l ?v; (case e => k_is); (case l => k_is); (case v => decide +kernel))
  iterate 4 (refine' DL.lam_mk ?a ?l ?c ?m ?v1 ?v2 ?v3 ?v4 ?v5 ?v6 ?v7; (case a => k_is); (case l => k_is); (case c => exact rfl); (case m => k_is); (case v1 => exact rfl); (case v2 => exact rfl); (case v3 => exact rfl); (case v4 => exact rfl); (case v5 => exact rfl); (case v6 => exact rfl); (case v7 => decide))

