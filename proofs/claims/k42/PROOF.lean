import PyProof.Rows.All
import Wide.All
import OpenK.AllK
import Wide.FinOn
import Lean
import PyProof.EqAt
import PyProof.EqKinds
import PyProof.TupleCall
import PyProof.AttrMissHeap
import PySem.Challenge.RW_sealchain_k42_what_is_judged
set_option Elab.async false
set_option linter.all false
set_option maxRecDepth 100000
set_option bootstrap.genMatcherCode false
set_option compiler.extract_closed false
set_option maxHeartbeats 40000000
def mY {α:Type _}{a:α}(l:List α){k:List α}(h:a∈k):a∈l++k:=List.mem_append_right l h
def mZ {α:Type _}(b:α){a:α}{l:List α}(h:a∈l):a∈b::l:=List.mem_cons_of_mem b h
def mX {α:Type _}{a:α}{l:List α}:a∈a::l:=List.mem_cons_self
def oX {α G:Type _}{o:Option α}{f:α->Option G}{b:G}(h:o.bind f=some b):∃a,o=some a/\f a=some b:=Option.bind_eq_some_iff.mp h
def oY {α G:Type _}{f:α->G}{o:Option α}{b:G}(h:o.map f=some b):∃a,o=some a/\f a=b:=Option.map_eq_some_iff.mp h
def wX:=@PySem.wpAny_bind
def wY:=@PySem.wpAny_pure
def vZ:=@PySem.Heap.get?_push_of_some
def vY:=@PySem.Heap.get?_push_size
def vX:=@PySem.Heap.lt_size
def vW:=@PySem.Heap.SameBut.update
def vV {α:Type _}{l:List α}{i:Nat}{a:α}(h:l[i]? = some a):∃h:i<l.length,l[i]=a:=List.getElem?_eq_some_iff.mp h
def vU {α:Type _}{l:List α}{i:Nat}(h:i<l.length):l[i]? = some l[i]:=List.getElem?_eq_getElem h
def vT (n:Nat):n<=n:=Nat.le_refl n
def vS {a b:Nat}(h:a<b):a≠b:=Nat.ne_of_lt h
def vR {n m k:Nat}:n<=m->m<=k->n<=k:=Nat.le_trans
def vQ {n m k:Nat}:n<m->m<=k->n<k:=Nat.lt_of_lt_of_le
def vP {α:Type _}{a b:α}{l:List α}(h:b∈a::l):b=a∨b∈l:=List.mem_cons.mp h
def vO {α G:Type _}{b:G}{f:α->G}{l:List α}(h:b∈l.map f):∃a,a∈l/\f a=b:=List.mem_map.mp h
def vN {α:Type _}{a:α}{p:α->Bool}{l:List α}(h:a∈l.filter p):a∈l/\p a=true:=List.mem_filter.mp h
def vM {α:Type _}(p:α->Bool)(l:List α):(l.filter p).length<=l.length:=List.length_filter_le p l
def vL {α:Type _}{l:List α}{i:Nat}{a:α}(h:l[i]? = some a):a∈l:=List.mem_of_getElem? h
def vK {α:Type _}{a b:α}(h:some a=some b):a=b:=Option.some.inj h
def vJ {α G:Type _}(a:α)(f:α->Option G):(some a).bind f=f a:=rfl
def vI {α M:Type _}{G:List α}(f:α->M):(G.map f).length=G.length:=List.length_map f
def vH {α:Type _}{l:List α}:l.toArray.size=l.length:=rfl
def vG {α:Type _}{xs:Array α}:xs.toList.length=xs.size:=rfl
def vF {α:Type _}{l:List α}{i:Nat}{a:α}:l.getD i a=l[i]?.getD a:=List.getD_eq_getElem?_getD
def vE {α:Type _}{a:α}{G:List α}:(a::G).length=G.length+1:=rfl
def vC (a b:Bool):((a && b)=true)=(a=true/\b=true):=Bool.and_eq_true a b
def vB {α:Type _}{i j:Nat}{a:α}{l:List α}(h:i≠j):(l.set i a)[j]? = l[j]?:=List.getElem?_set_ne h
def vA {α G:Type _}{f:α->G}{l:List α}{i:Nat}:(l.map f)[i]? = Option.map f l[i]?:=List.getElem?_map
def uZ {α:Type _}{G bs:List α}:(G++bs).length=G.length+bs.length:=List.length_append
def uY {α G:Type _}{f:α->G}{a:α}{l:List α}:(a::l).map f=f a::l.map f:=rfl
def uX:false≠true:=Bool.false_ne_true
def uW {α M:Type _}{f:α->M}{l G:List α}:(l++G).map f=l.map f++G.map f:=List.map_append
def uV:(false=true)=False:=Bool.false_eq_true
def uU {α:Type _}{x:Option α}(h:x.isSome=true):∃a,x=some a:=Option.isSome_iff_exists.mp h
def uT {α:Type _}{a b:α}(h:a∈[b]):a=b:=List.mem_singleton.mp h
def uS {α G:Type _}{b:G}{f:α->G}{l:List α}(h:∃a,a∈l/\f a=b):b∈l.map f:=List.mem_map.mpr h
def uR {α:Type _}{l:List α}{p:α->Bool}(h:l.all p=true):∀x∈l,p x=true:=List.all_eq_true.mp h
def uQ {α:Type _}(G:List α):G++[]=G:=List.append_nil G
def uP {α G M:Type _}{g:G->M}{f:α->G}{l:List α}:(l.map f).map g=l.map (g ∘ f):=List.map_map
def uN (n:Nat):0<=n:=Nat.zero_le n
def Aq {p:Prop}[Decidable p](h:p):decide p=true:=decide_eq_true h
def PK {p:Prop}[Decidable p](h:¬p):decide p=false:=decide_eq_false h
def PN {p:Prop}[Decidable p](h:decide p=true):p:=of_decide_eq_true h
noncomputable section
open PySem.W (Frag kia_one fnOf nsIn mg_of)
open List (mem_filter mem_range mem_append mem_append_left mem_filterMap nodup_cons of_mem_zip length_take getElem?_append_right getElem?_replicate getElem?_append_left take_sublist length_replicate length_drop all_cons any_cons length_singleton map_nil find?_cons length_nil nodup_nil length_set drop_eq_nil_of_le forIn_cons lookup_cons append_assoc not_mem_nil length_range mem_singleton forIn_nil lookup_cons_self getElem_mem nodup_append foldl_cons foldl_append getElem?_cons_succ take_add_one mem_cons getElem?_eq_none ext_getElem? not_lt le_trans le_antisymm pairwise_cons lt_irrefl lt_trans nil_perm filter_cons cons_lt_cons_iff cons_append flatMap_cons zip_cons_cons getD_cons_succ getElem?_zip_eq_some mem_iff_getElem? length_zip zipWith_cons_cons take_length all_eq_true all_nil length_zipIdx zip_map' filter_sublist pairwise_map filter_append map_id map_take map_drop)
open Nat (le_of_lt ne_of_gt le_of_eq lt_succ_self le_succ lt_of_le_of_lt le_add_right lt_succ_of_lt)
open Int (toNat_natCast le_refl)
open Array (toList_push getElem?_toList getD_eq_getD_getElem? getElem?_eq_getElem toList_inj)
open Option (getD_none isSome_map isNone_some toList_some map_some)
open PySem.F (slot_tuple_add entry_tuple_add args_tuple_add_2 slot_dict_get entry_dict_get plainAttrs_dict slot_tuple_iterator_next slot_zip_next entry_zip_next args_zip_next_1 plain_set_new called_set slot_set_iter plain_extend_loop slot_tuple_lt slot_tuple_gt slot_list_getattribute)
abbrev QV:=PySem.Value->PySem.Shared->Prop
abbrev AO:=List (PySem.Addr×PySem.Obj)
abbrev SV:=PySem.Str->Option PySem.Value
abbrev LU:=List PySem.Value
abbrev AV:=Array PySem.Value
abbrev LS:=List PySem.Str
abbrev QD:=List PySem.Expr
abbrev LN:=List Nat
abbrev LI:=List Int
abbrev OI:=Option Int
namespace L2
open PySem PySem.Spec PyProof.Rows
abbrev eK:=Sum Int Str
noncomputable def um:eK->Value->Bool
 |.inl k,v=>Value.isInt k v
 |.inr x,v=>Value.isStrOf x v
noncomputable def QZ (w:World):eK->Int
 |.inl k=>hashInt k
 |.inr x=>hashStr w x
theorem cJ:∀ {k:eK}{v:Value},um k v=true->(∃i t,k=Sum.inl i/\v=Value.int i t)∨(∃x t,k=Sum.inr x/\v=Value.str x t)
 |.inl i,v,h=>by
  obtain⟨t,e⟩:=Value.isInt_shape (k:=i) (v:=v) h;exact .inl ⟨i,t,rfl,e⟩
 |.inr x,v,h=>by
  obtain⟨t,e⟩:=Value.isStrOf_shape (x:=x) (v:=v) h;exact .inr ⟨x,t,rfl,e⟩
def Dq (i:Int)(t:Tok):um (.inl i) (.int i t)=true:=by simp[um,Value.isInt]
def Dr (x:Str)(t:Tok):um (.inr x) (.str x t)=true:=by simp[um,Value.isStrOf]
def Lx (a b:Int):decide ((Sum.inl a:eK)=Sum.inl b)=(a == b):=by
 by_cases e:a=b
 ·subst e;simp
 ·have h:¬(Sum.inl a:eK)=Sum.inl b:=λq=>e (Sum.inl.inj q);rw[PK h];exact(beq_eq_false_iff_ne.mpr e).symm
def Ly (a b:Str):decide ((Sum.inr a:eK)=Sum.inr b)=decide (a=b):=by
 by_cases e:a=b
 ·subst e;simp
 ·have h:¬(Sum.inr a:eK)=Sum.inr b:=λq=>e (Sum.inr.inj q);rw[PK h,PK e]
def Lz (a:Int)(b:Str):decide ((Sum.inl a:eK)=Sum.inr b)=false:=PK (λq=>nomatch q)
def L0 (a:Str)(b:Int):decide ((Sum.inr a:eK)=Sum.inl b)=false:=PK (λq=>nomatch q)
def cu (prog:Program)(w:World):PySem.KeyKind prog w eK where
 is:=um
 hash:=QZ w
 inj:=λv a b ha hb=>by
  rcases cJ ha with⟨i,t,rfl,rfl⟩|⟨x,t,rfl,rfl⟩
  ·rcases cJ hb with⟨j,u,rfl,e⟩|⟨y,u,rfl,e⟩
   ·injection e with G _;rw[G]
   ·exact nomatch e
  ·rcases cJ hb with⟨j,u,rfl,e⟩|⟨y,u,rfl,e⟩
   ·exact nomatch e
   ·injection e with G _;rw[G]
 byValue:=λk v h=>by
  rcases cJ h with⟨i,t,rfl,rfl⟩|⟨x,t,rfl,rfl⟩<;>rfl
 pyHash:=λhv h=>by
  rcases cJ hv with⟨i,t,rfl,rfl⟩|⟨x,t,rfl,rfl⟩
  ·exact wpAny_pyHash_int h
  ·exact wpAny_pyHash_str h
 eqBool:=λhu hv h=>by
  rcases cJ hu with⟨i,t,rfl,rfl⟩|⟨x,t,rfl,rfl⟩
  ·rcases cJ hv with⟨j,u,rfl,rfl⟩|⟨y,u,rfl,rfl⟩
   ·rw[Lx]at h;exact wpAny_eqBool_int h
   ·rw[Lz]at h;exact SeqAt.EqAt.int_str i t y u _ _ _ _ h
  ·rcases cJ hv with⟨j,u,rfl,rfl⟩|⟨y,u,rfl,rfl⟩
   ·rw[L0]at h;exact SeqAt.EqAt.str_int x t j u _ _ _ _ h
   ·rw[Ly]at h;exact wpAny_eqBool_str h
 «strs»:=λk x t v h=>by
  rcases cJ h with⟨i,u,rfl,e⟩|⟨y,u,rfl,e⟩
  ·exact nomatch e
  ·injection e with G _;subst G;cases v<;>rfl
def ye (prog:Program)(w:World)(i:Int)(t:Tok):(cu prog w).is (.inl i) (.int i t)=true:=Dq i t
def yf (prog:Program)(w:World)(x:Str)(t:Tok):(cu prog w).is (.inr x) (.str x t)=true:=Dr x t
inductive V where
 |non|bl (b:Bool)|int (i:Int)|str (x:Str)|byt (b:Array UInt8)|flt (b:UInt64)|ref (a:Addr)|ty (n:String)
 deriving DecidableEq
def be:V->Value->Prop
 |.non,u=>u=Value.none
 |.bl b,u=>u=Value.bool b
 |.int i,u=>∃t,u=Value.int i t
 |.str x,u=>∃t,u=Value.str x t
 |.byt b,u=>∃t,u=Value.bytes b t
 |.flt b,u=>∃t,u=Value.float b t
 |.ref a,u=>u=Value.ref a
 |.ty n,u=>u=Value.type n
abbrev b7:List V->LU->Prop:=Paired be
def b7.length (r:b7 xs us):xs.length=us.length:=Paired.length r
theorem b7.get:∀ {xs:List V}{us:LU}{i:Nat}{x:V},b7 xs us->xs[i]? = some x->∃u,us[i]? = some u/\be x u
 |_,_,_,_,.nil,e=>by simp at e
 |_,_,0,_,.cons r _,e=>by simp at e;subst e;exact⟨_,rfl,r⟩
 |_,_,i+1,x,.cons _ t,e=>by
  obtain⟨u,h1,h2⟩:=b7.get (i:=i) (x:=x) t (by simpa using e);exact⟨u,by simpa using h1,h2⟩
theorem b7.set (r:be x u):∀ {xs:List V}{us:LU}(i:Nat),b7 xs us->b7 (xs.set i x) (us.set i u)
 |_,_,_,.nil=>.nil
 |_,_,0,.cons _ t=>.cons r t
 |_,_,i+1,.cons q t=>.cons q (b7.set r i t)
theorem b7.append:∀ {xs ys:List V}{us G:LU},b7 xs us->b7 ys G->b7 (xs++ys) (us++G)
 |_,_,_,_,.nil,s=>s
 |_,_,_,_,.cons r t,s=>.cons r (b7.append t s)
theorem b7.take:∀ {xs:List V}{us:LU}(n:Nat),b7 xs us->b7 (xs.take n) (us.take n)
 |_,_,0,_=>.nil
 |_,_,_+1,.nil=>.nil
 |_,_,n+1,.cons r t=>.cons r (b7.take n t)
theorem b7.drop:∀ {xs:List V}{us:LU}(n:Nat),b7 xs us->b7 (xs.drop n) (us.drop n)
 |_,_,0,r=>r
 |_,_,_+1,.nil=>.nil
 |_,_,n+1,.cons _ t=>b7.drop n t
def b7.none_of:∀ {xs:List V}{us:LU}{i:Nat},b7 xs us->xs[i]? = none->us[i]? = none:=λ{xs us i} r e=>by
 have h1:=r.length;have h2:xs.length<=i:=List.getElem?_eq_none_iff.mp e;exact List.getElem?_eq_none_iff.mpr (by omega)
def pW:Option V->Option Value->Prop
 |some v,some u=>be v u
 |none,none=>True
 |_,_=>False
def KV {κ:Type}:List (κ×V)->List (κ×Value)->Prop:=Paired λ(p:κ×V) (q:κ×Value)=>p.1=q.1/\be p.2 q.2
noncomputable def kV:eK->V
 |.inl i=>.int i
 |.inr x=>.str x
inductive HO where
  |lst (xs:List V)
  |tup (xs:List V)
  |dK (aM:List (eK×V)) (ob:Obj)|dT (aM:List (List eK×V))
  |set (S:Int->Bool) (n:Nat)
  |ins (C dx:Addr) (fs:List (Str×V))
  |own (x:Addr)
  |xd (fs:List (Str×V))
  |met (f x:Addr)
  |rng (lo hi:Int)
  |frz (o:Obj) (u:HO)
  |tbl (q:Str)
  |ext (φ:Heap->Prop)
abbrev Hp:=Addr->Option HO
noncomputable def upd (H:Hp)(a:Addr)(o:HO):Hp:=λb=>if b=a then some o else H b
def aB:upd H a o a=some o:=by unfold upd;rw[if_pos rfl]
def aG (h:b≠a):upd H a o b=H b:=by unfold upd;rw[if_neg h]
def mB:upd (upd H a o) a u=upd H a u:=by
 funext b;unfold upd;split<;>rfl
def Og {H:Hp}{a b:Addr}{o u:HO}(h:H a=some o)(h':H b=some u)(d:o≠u):a≠b:=by
 intro e;subst e;rw[h]at h';exact d (vK h')
def bf {H:Hp}{a b:Addr}{o:HO}(h:H a=some o)(h':H b=none):a≠b:=by
 intro e;subst e;rw[h]at h';cases h'
section
variable (P:Program) (w:World)
def bR (H:Hp)(h:Heap)(a:Addr):HO->Prop
 |.lst xs=>xs.length<=sizeLine/\∃(its:LU)(n:Nat),b7 xs its/\h.get? a=some { cls:=.type "list",data:=.seq its.toArray n }
 |.tup xs=>xs.length<=sizeLine/\∃its:LU,b7 xs its/\IsTup h a its.toArray
 |.dK aM ob=>h.get? a=some ob/\aM.length<=sizeLine/\(a == sysModules)=false/\∃vs,KV aM vs/\h.DictOf (cu P w) a vs
 |.dT aM=>aM.length<=sizeLine/\(a == sysModules)=false/\∃xs:List (List eK×Addr×Value),
   Paired (λ(p:List eK×V) (q:List eK×Addr×Value)=>p.1=q.1/\H q.2.1=some (.tup (p.1.map kV))/\be p.2 q.2.2) aM xs /\
   ∃o es O,h.get? a=some o/\o.ExactDict/\o.data=.dict es O/\es.toList=xs.map (entryOfKey (tupleKind (cu P w)))/\(xs.map (·.1)).Nodup
 |.set S n=>h.SetOf (intKind P w) a S n
 |.ins C dx fs=>H dx=some (.own a)/\fs.length<=1000/\dx≠a/\h.get? a=some (PySem.W.instObj C dx) /\
   ∃mA,h.Ns1 dx mA/\(∀f,pW (fs.lookup f) (mA f))/\PySem.Within mA (fs.map (·.1))
 |.own _=>∃o,h.get? a=some o
 |.xd fs=>∃mA,h.Ns1 a mA/\∀f,pW (fs.lookup f) (mA f)
 |.rng lo hi=>∃t u v,h.get? a=some { cls:=.type "range",data:=.fields #[.int lo t,.int hi u,.int 1 v] }
 |.frz o u=>h.get? a=some o/\bR H h a u
 |.tbl q=>∃ps:AV,h.get? a=some { cls:=.none,data:=.fields ps }/\TriplesOk ps.toList/\∀G M,codeAmong G ps.toList=some M->∃(c:Addr)(oc:Obj)(u:HO)(vs:AV)(t:Tok),M=.ref c/\H c=some (.frz oc u)/\oc.data=.fields vs/\vs[1]? = some (.str q t)
 |.met f x=>h.get? a=some (PySem.W.methodObj (.ref f) (.ref x))
 |.ext φ=>φ h/\(∃o,h.get? a=some o)/\∀h1 h2:Heap,φ h1->(∀o,h1.get? a=some o->h2.get? a=some o)->φ h2
def lJ (H:Hp)(h:Heap):Prop:=∀a o,H a=some o->bR P w H h a o
end
section
variable {P:Program}{w:World}{H H':Hp}{h h':Heap}{a:Addr}{o:HO}
def bR.lt (x:bR P w H h a o):a<h.objs.size:=by
 cases o with
 |lst xs=>obtain⟨_,_,_,_,e⟩:=x;exact vX e
 |tup xs=>obtain⟨_,_,_,p⟩:=x;exact p.lt
 |dK aM ob=>exact vX (And.left x)
 |dT aM=>obtain⟨_,_,_,_,o,_,_,e,_⟩:=x;exact vX e
 |set S n=>obtain⟨o,_,_,_,e,_⟩:=x;exact vX e
 |ins C dx fs=>obtain⟨_,_,_,e,_⟩:=x;exact vX e
 |own y=>obtain⟨_,e⟩:=x;exact vX e
 |xd fs=>obtain⟨_,⟨_,_,_,e,_⟩,_⟩:=x;exact vX e
 |rng lo hi=>obtain⟨_,_,_,e⟩:=x;exact vX e
 |frz ob u=>obtain⟨e,_⟩:=x;exact vX e
 |tbl q=>obtain⟨_,e,_⟩:=x;exact vX e
 |met f y=>exact vX (show h.get? a=some _ from x)
 |ext φ=>obtain⟨_,⟨_,e⟩,_⟩:=x;exact vX e
theorem Paired.mapP {α T:Type}{F G:α->T->Prop}:∀ {M:List α}{O:List T},Paired F M O->(∀a b,F a b->G a b)->Paired G M O
 |_,_,.nil,_=>.nil
 |_,_,.cons r t,f=>.cons (f _ _ r) (Paired.mapP t f)
def bR.stay (x:bR P w H h a o)(k:∀b u,(b=a∨H b=some (.own a))->h.get? b=some u->h'.get? b=some u)
  (O:∀b,H b=some (.own a)->H' b=some (.own a)) (T:∀b xs,H b=some (.tup xs)->H' b=some (.tup xs)) (hf:∀b o u,H b=some (.frz o u)->H' b=some (.frz o u)):bR P w H' h' a o:=by
 induction o with
 |lst xs=>obtain⟨z,its,n,r,e⟩:=x;exact⟨z,its,n,r,k _ _ (.inl rfl) e⟩
 |tup xs=>obtain⟨z,its,r,ob,e,c⟩:=x;exact⟨z,its,r,ob,k _ _ (.inl rfl) e,c⟩
 |dK aM U=>obtain⟨g,z,y,vs,r,ob,es,G,e,c⟩:=x;exact⟨k _ _ (.inl rfl) g,z,y,vs,r,ob,es,G,k _ _ (.inl rfl) e,c⟩
 |dT aM=>
  obtain⟨z,y,xs,r,ob,es,G,e,c⟩:=x;exact⟨z,y,xs,Paired.mapP r λp q z=>⟨z.1,T _ _ z.2.1,z.2.2⟩,ob,es,G,k _ _ (.inl rfl) e,c⟩
 |set S n=>obtain⟨ob,es,G,t,e,c⟩:=x;exact⟨ob,es,G,t,k _ _ (.inl rfl) e,c⟩
 |ins C dx fs=>
  obtain⟨d,z,ne,e,mA,⟨od,es,G,e2,c⟩,r⟩:=x;exact⟨O _ d,z,ne,k _ _ (.inl rfl) e,mA,⟨od,es,G,k _ _ (.inr d) e2,c⟩,r⟩
 |own y=>obtain⟨ob,e⟩:=x;exact⟨ob,k _ _ (.inl rfl) e⟩
 |xd fs=>obtain⟨mA,⟨od,es,G,e,c⟩,r⟩:=x;exact⟨mA,⟨od,es,G,k _ _ (.inl rfl) e,c⟩,r⟩
 |rng lo hi=>obtain⟨t,u,v,e⟩:=x;exact⟨t,u,v,k _ _ (.inl rfl) e⟩
 |frz ob u ih=>obtain⟨e,q⟩:=x;exact⟨k _ _ (.inl rfl) e,ih q⟩
 |tbl q=>obtain⟨ps,e,t,c⟩:=x;exact⟨ps,k a _ (.inl rfl) e,t,λM cv z=>let ⟨d,oc,u,vs,tk,z1,z2,z3⟩:=c M cv z;⟨d,oc,u,vs,tk,z1,hf _ _ _ z2,z3⟩⟩
 |met f y=>
  have e:h.get? a=some (PySem.W.methodObj (.ref f) (.ref y)):=x;show h'.get? a=some (PySem.W.methodObj (.ref f) (.ref y));exact k a _ (.inl rfl) e
 |ext φ=>obtain⟨p,⟨o,e⟩,st⟩:=x;exact⟨st _ _ p λo q=>k _ _ (.inl rfl) q,⟨o,k _ _ (.inl rfl) e⟩,st⟩
def lJ.lt (x:lJ P w H h)(e:H a=some o):a<h.objs.size:=(x a o e).lt
def lJ.fresh (x:lJ P w H h)(e:h.objs.size<=a):H a=none:=by
 cases q:H a with
 |none=>rfl
 |some u=>exact absurd (vQ (x.lt q) e) (Nat.lt_irrefl _)
def lJ.kept (x:lJ P w H h)(k:∀b u,h.get? b=some u->h'.get? b=some u):lJ P w H h':=λa o e=>
 (x a o e).stay (λb u _ q=>k b u q) (λ_ q=>q) (λ_ _ q=>q) λ_ _ _ q=>q
def lJ.laid (x:lJ P w H h)(k:∀b u,h.get? b=some u->h'.get? b=some u)(hp:h.objs.size<=a)(new:bR P w (upd H a o) h' a o):lJ P w (upd H a o) h':=λb u e=>by
 have hn:=x.fresh hp;by_cases hb:b=a
 ·subst hb;rw[aB]at e;cases e;exact new
 ·rw[aG hb]at e;exact(x b u e).stay (λc v _ q=>k c v q) (λc q=>by rw[aG (bf q hn)];exact q) (λc xs q=>by rw[aG (bf q hn)];exact q) λc o xs q=>by rw[aG (bf q hn)];exact q
end
def Rd (H:Hp)(a:Addr)(u:HO):Prop:=H a=some u∨∃o,H a=some (.frz o u)
def Rd.of (h:H a=some u):Rd H a u:=.inl h
def Rd.ok (r:Rd H a u)(x:lJ P w H h):bR P w H h a u:=by
 rcases r with r|⟨o,r⟩
 ·exact x a u r
 ·obtain⟨_,q⟩:=x a _ r;exact q
def Oh:Option HO->Prop
 |some (.lst _)=>True
 |some (.dK _ _)=>True
 |some (.dT _)=>True
 |some (.set _ _)=>True
 |some (.ins _ _ _)=>True
 |some (.ext _)=>True
 |_=>False
section
variable {P:Program}{w:World}{H:Hp}{h h':Heap}{x e:Addr}{o':HO}
def lJ.write (ok:lJ P w H h)(O:Oh (H x))(he:e=x∨H e=some (.own x))(k:∀b u,b≠e->h.get? b=some u->h'.get? b=some u)(U:∃u,h'.get? e=some u)
  (new:bR P w (upd H x o') h' x o'):lJ P w (upd H x o') h':=λb u q=>by
 have M:∀c y,H c=some (.own y)->c≠x:=λc y r z=>by subst z;rw[r]at O;exact O
 have T:∀c xs,H c=some (.tup xs)->c≠x:=λc xs r z=>by subst z;rw[r]at O;exact O
 by_cases hb:b=x
 ·subst hb;rw[aB]at q;cases q;exact new
 ·rw[aG hb]at q;by_cases G:b=e
  ·have q':H b=some (.own x):=by
    rcases he with z|z
    ·exact absurd (G.trans z) hb
    ·rw[G];exact z
   rw[q]at q';cases q';obtain⟨v,hv⟩:=U;exact⟨v,by rw[G];exact hv⟩
  ·refine(ok b u q).stay (λc v hc r=>k c v ?_ r) (λc r=>by rw[aG (M c b r)];exact r) (λc xs r=>by rw[aG (T c xs r)];exact r) λc o xs r=>by rw[aG (λz=>by subst z;rw[r]at O;exact O)];exact r
   rcases hc with rfl|hc
   ·exact G
   ·rintro rfl;rcases he with z|z
    ·exact M c b hc z
    ·rw[hc]at z;cases z;exact hb rfl
end
structure Un (fs ex:List Addr)(H H':Hp)(h h':Heap):Prop where
 keep:∀b o,h.get? b=some o->H b=none->b∉fs->b∉ex->h'.get? b=some o
 slot:∀b o,h.get? b=some o->H b=none->b∈fs->b∉ex->∃sl,h'.get? b=some { o with slots:=sl }
 free:∀b o,h.get? b=some o->H b=none->b∉ex->H' b=none
 there:∀b o,h.get? b=some o->b∉ex->∃o',h'.get? b=some o'
 tups:∀b xs,H b=some (.tup xs)->H' b=some (.tup xs)
 frzs:∀b o u,H b=some (.frz o u)->H' b=some (.frz o u)
 tbls:∀b q,H b=some (.tbl q)->H' b=some (.tbl q)
section
variable {fs Wa ex XW:List Addr}{H H1 H2:Hp}{h h1 h2 h':Heap}{a x e:Addr}{o:HO}
def Un.any (u:Un fs ex H H1 h h1)(q:h.get? b=some ob)(n:H b=none)(hx:b∉ex):∃sl,h1.get? b=some { ob with slots:=sl }:=by
 by_cases hb:b∈fs
 ·exact u.slot b ob q n hb hx
 ·exact⟨ob.slots,u.keep b ob q n hb hx⟩
def Un.trans (a:Un fs ex H H1 h h1)(b:Un fs ex H1 H2 h1 h2):Un fs ex H H2 h h2 where
 keep:=λc ob q n hc hx=>b.keep c ob (a.keep c ob q n hc hx) (a.free c ob q n hx) hc hx
 slot:=λc ob q n hc hx=>by
  obtain⟨sl,G⟩:=a.slot c ob q n hc hx;obtain⟨M,e2⟩:=b.slot c _ G (a.free c ob q n hx) hc hx;exact⟨M,e2⟩
 free:=λc ob q n hx=>by
  obtain⟨o',G⟩:=a.there c ob q hx;exact b.free c o' G (a.free c ob q n hx) hx
 there:=λc ob q hx=>by
  obtain⟨o',G⟩:=a.there c ob q hx;exact b.there c o' G hx
 tups:=λc xs q=>b.tups c xs (a.tups c xs q)
 frzs:=λc ob xs q=>b.frzs c ob xs (a.frzs c ob xs q)
 tbls:=λc ps q=>b.tbls c ps (a.tbls c ps q)
def Un.kept (k:∀b u,h.get? b=some u->h'.get? b=some u):Un fs ex H H h h' :=
 ⟨λb ob q _ _ _=>k b ob q,λb ob q _ _ _=>⟨ob.slots,k b ob q⟩,λ_ _ _ n _=>n,λb ob q _=>⟨ob,k b ob q⟩,λ_ _ q=>q,λ_ _ _ q=>q,λ_ _ q=>q⟩
def Un.refl:Un fs ex H H h h:=Un.kept λ_ _ q=>q
def Un.laid (k:∀b u,h.get? b=some u->h'.get? b=some u)(hp:h.objs.size<=a)(hn:H a=none):Un fs ex H (upd H a o) h h' where
 keep:=λb u q _ _ _=>k b u q
 slot:=λb u q _ _ _=>⟨u.slots,k b u q⟩
 free:=λb u q n _=>by rw[aG (vS (vQ (vX q) hp))];exact n
 there:=λb u q _=>⟨u,k b u q⟩
 tups:=λb xs q=>by rw[aG (bf q hn)];exact q
 frzs:=λb u xs q=>by rw[aG (bf q hn)];exact q
 tbls:=λb ps q=>by rw[aG (bf q hn)];exact q
def Un.write (M:Oh (H x))(he:e=x∨H e=some (.own x))(k:∀b u,b≠e->h.get? b=some u->h'.get? b=some u)(O:∃u,h'.get? e=some u):Un fs ex H (upd H x o) h h':=by
 have hx:∀b,H b=none->b≠x:=λb n z=>by subst z;rw[n]at M;exact M
 have hb:∀b,H b=none->b≠e:=λb n z=>by
  subst z;rcases he with r|r
  ·exact hx b n r
  ·rw[n]at r;cases r
 have hm:∀b u,H b=some u->¬Oh (some u)->b≠x:=λb u q nm z=>by subst z;rw[q]at M;exact nm M
 refine⟨λb u q n _ _=>k b u (hb b n) q,λb u q n _ _=>⟨u.slots,k b u (hb b n) q⟩,λb u q n _=>by rw[aG (hx b n)];exact n,λb u q _=>?_,
  λb xs q=>by rw[aG (hm b _ q λz=>z)];exact q,λb u xs q=>by rw[aG (hm b _ q λz=>z)];exact q,λb ps q=>by rw[aG (hm b _ q λz=>z)];exact q⟩
 by_cases G:b=e
 ·subst G;exact O
 ·exact⟨u,k b u G q⟩
end
noncomputable def Qx (h:Heap)(H:Hp):List Addr:=(List.range h.objs.size).filter λa=>(H a).isSome
def yg (h:Heap)(H:Hp):Heap:=PySem.W.hideAll h (Qx h H)
def Ds (h:Heap)(H:Hp):(yg h H).objs.size=h.objs.size:=PySem.W.hideAll_size _ _
def q8 (e:h.get? b=some o)(n:H b=none):(yg h H).get? b=some o :=
 PySem.W.hideAll_get _ e λhm=>by
  have q:(H b).isSome=true:=(vN hm).2;rw[n]at q;simp at q
def Ik (e:(yg h H).get? b=some o):h.get? b=some o/\H b=none:=by
 have G:h.get? b=some o:=PySem.W.of_hideAll (Qx h H) e;refine⟨G,?_⟩;cases q:H b with
 |none=>rfl
 |some x=>
  have hm:b∈Qx h H:=mem_filter.mpr ⟨mem_range.mpr (vX G),by simp[q]⟩;have z:(yg h H).get? b=none:=PySem.W.hideAll_none (Qx h H) hm;rw[z]at e;cases e
noncomputable def Il (g h:Heap)(L:Addr):AO:=(List.range h.objs.size).filterMap λa=>if a=L∨(g.get? a).isSome=true then none else (h.get? a).map λo=>(a,o)
def ax (g h:Heap)(L d:Addr):AO:=(Il g h L).filter λp=>decide (p.1≠d)
structure Mod (K:Frag)(mg:Str->Option Value)(base:Heap):Prop where
 kin:K.In base
 glob:base.Ns mainGlobals mg
 blt:∃mb,base.Ns builtinsNs mb/\∀x:Str,x ≠ "__name__"->mb x=bootBuiltins x
 nolimit:base.NoLimit
 bmain:∃bm ob,mg "__builtins__" = some (.ref bm)/\bm≠builtinsNs/\base.get? bm=some ob/\ob.cls=.type "module"/\ob.dict=some builtinsNs/\ob.data=.plain
structure Cx where
 prog:Program
 w:World
 K:Frag
 mg:Str->Option Value
 base:Heap
 A:Around
 N:List Str
 s₀:Shared
 H₀:Hp
 env:Env
 outer:List Env
 stack:List Env
 ex:List Addr
 fn:Str->Bool
 calm:Bool
 pn:List (Addr×Obj)
 xe:Value->Shared->Prop
noncomputable def E8 (l:List Env):List Addr:=l.filterMap (·.frame)
abbrev Cx.fs (X:Cx):List Addr:=E8 X.outer
def L1 (sc:Scope)(x:Str):Prop:=sc.names.lookup x=some .local∨sc.names.lookup x=some .cell∨sc.names.lookup x=some .free
def EG (sc:Scope)(x:Str):Prop:=sc.names.lookup x=some .local∨sc.names.lookup x=some .cell
def Ra (env:Env)(h:Heap)(m:SV)(x:Str)(u:Value):Prop :=
 (env.kindOf x=some .local/\m x=some u)∨((env.kindOf x=some .cell∨env.kindOf x=some .free)/\∃c,env.cells.lookup x=some c/\h.IsCell c (some u))
abbrev wq {α:Type}(X:Cx):Sem α->(α->Shared->Prop)->(Value->Shared->Prop)->Shared->Prop:=wpAny (model X.prog X.w) X.A
structure Cx.Ok (X:Cx):Prop where
 mod:Mod X.K X.mg X.base
 kind:X.env.scope.kind=.function
 glob:X.env.globals=mainGlobals
 blt:X.env.builtins=builtinsNs
 above:X.s₀.heap.objs.size<=X.env.locals
 inj:∀x y c,X.env.cells.lookup x=some c->X.env.cells.lookup y=some c->x=y
 has:∀x,(X.env.kindOf x=some .cell∨X.env.kindOf x=some .free)->∃c,X.env.cells.lookup x=some c
 cab:∀x c,X.fn x=true->X.env.cells.lookup x=some c->X.s₀.heap.objs.size<=c
 hd:X.calm=true->X.A.handled=none
 frames:X.A.frames=some X.stack
 stk:X.stack=X.outer∨(X.stack=X.env::X.outer/\X.env.frame=some X.env.locals)
 exf:∀b∈X.ex,b≠X.env.locals/\∀x c,X.env.cells.lookup x=some c->c≠b
 bs:∀b o,X.base.get? b=some o->X.s₀.heap.get? b=some o/\X.H₀ b=none
 bsz:X.base.objs.size<=X.s₀.heap.objs.size
 noex:∀b o,X.base.get? b=some o->b∉X.ex
 exfs:∀b∈X.ex,b∉X.fs
 funs:X.s₀.heap.FunFrames X.base X.outer
 frf:∀b∈X.fs,X.H₀ b=none
structure Inv (X:Cx)(ah:List (Addr×Obj))(σ:List (Option V))(H:Hp)(s:Shared):Prop where
 ok:X.Ok
 os:s.os=X.s₀.os
 bare:AllBare s.gens
 base:Un X.fs X.ex X.H₀ H X.s₀.heap s.heap
 loc:∃m,s.heap.Ns X.env.locals m/\∀(i:Nat)(x:Str)(v:V),X.N[i]? = some x->σ[i]? = some (some v)->L1 X.env.scope x->∃u,be v u/\Ra X.env s.heap m x u
 cell:∀x c,X.env.cells.lookup x=some c->∃v,s.heap.IsCell c v
 free:H X.env.locals=none
 freeC:∀x c,X.env.cells.lookup x=some c->H c=none
 pin:∀p∈X.pn++ah,s.heap.get? p.1=some p.2/\H p.1=none/\p.1≠X.env.locals/\p.1∉X.fs/\∀v,p.2.data≠.cell v
 hok:lJ X.prog X.w H s.heap
 len:σ.length=X.N.length
section
variable {X:Cx}{ah:AO}{σ:List (Option V)}{H H':Hp}{s:Shared}{h':Heap}
def Cx.Ok.nofr (ok:X.Ok)(e:X.base.get? b=some o):b∉X.fs:=λhb=>by
 have:=(ok.funs.mem hb).1;rw[e]at this;cases this
def Inv.bs (I:Inv X ah σ H s):∀b o,X.base.get? b=some o->s.heap.get? b=some o/\H b=none:=λb o e=>
 ⟨I.base.keep b o (I.ok.bs b o e).1 (I.ok.bs b o e).2 (I.ok.nofr e) (I.ok.noex b o e),I.base.free b o (I.ok.bs b o e).1 (I.ok.bs b o e).2 (I.ok.noex b o e)⟩
def Inv.bk (I:Inv X ah σ H s):∀b o,X.base.get? b=some o->s.heap.get? b=some o:=λb o e=>(I.bs b o e).1
def Inv.mod (I:Inv X ah σ H s):Mod X.K X.mg X.base:=I.ok.mod
def Inv.kIn (I:Inv X ah σ H s):X.K.In s.heap:=I.ok.mod.kin.keeps I.bk
def Inv.nolimit (I:Inv X ah σ H s):s.heap.NoLimit:=I.ok.mod.nolimit.keeps I.bk
def Inv.lt (I:Inv X ah σ H s):X.env.locals<s.heap.objs.size:=let ⟨_,hn,_⟩:=I.loc;hn.lt
def Inv.sz (I:Inv X ah σ H s):X.s₀.heap.objs.size<=s.heap.objs.size:=vR I.ok.above (le_of_lt I.lt)
def Inv.nofs (I:Inv X ah σ H s)(h:s.heap.objs.size<=a):a∉X.fs:=λhb=>by
 obtain⟨_,o,G,_⟩:=I.ok.funs.mem hb;exact absurd (vQ (vX G) (vR I.sz h)) (Nat.lt_irrefl _)
def Inv.cne (I:Inv X ah σ H s):∀x c,X.env.cells.lookup x=some c->c≠X.env.locals:=λx c e z=>by
 obtain⟨v,o,O,hd⟩:=I.cell x c e;obtain⟨m,⟨o',es,T,G,M,_⟩,_⟩:=I.loc;rw[z,G]at O;cases O;rw[M]at hd;cases hd
def Inv.funs (I:Inv X ah σ H s):s.heap.FunFrames X.base X.outer:=by
 have all:∀(l:List Env),(∀b∈E8 l,b∈X.fs)->X.s₀.heap.FunFrames X.base l->s.heap.FunFrames X.base l:=by
  intro l;induction l with
  |nil=>intro _ _;trivial
  |cons env r M=>
   intro hs hl;obtain⟨hk,⟨L,o,hf,hn,O,hd⟩,T⟩:=hl;have G:L∈X.fs:=hs L (by unfold E8;rw[List.filterMap_cons,hf];exact mX);obtain⟨sl,e⟩:=I.base.slot L o O (I.ok.frf L G) G λz=>I.ok.exfs L z G;exact⟨hk,⟨L,_,hf,hn,e,hd⟩,M (λb hb=>hs b (by unfold E8;rw[List.filterMap_cons,hf];exact mZ _ hb)) T⟩
 exact all X.outer (λ_ hb=>hb) I.ok.funs
def Inv.stack (I:Inv X ah σ H s):s.heap.FunFrames X.base X.stack:=by
 rcases I.ok.stk with e|⟨e,hf⟩
 ·rw[e];exact I.funs
 ·rw[e];obtain⟨m,hn,_⟩:=I.loc;refine .cons (by rw[I.ok.kind];decide) hf hn ?_ I.funs;exact Heap.get?_none_of_le (vR I.ok.bsz I.ok.above)
def Inv.stkSub (I:Inv X ah σ H s):∀b∈E8 X.stack,b∈X.env.locals::X.fs:=λb hb=>by
 rcases I.ok.stk with e|⟨e,hf⟩
 ·rw[e]at hb;exact mZ _ hb
 ·rw[e]at hb;unfold E8 at hb;rw[List.filterMap_cons,hf]at hb;exact hb
def Inv.stkFree (I:Inv X ah σ H s):∀b∈E8 X.stack,H b=none:=λb hb=>by
 rcases vP (I.stkSub b hb)with e|hb
 ·rw[e];exact I.free
 ·obtain⟨_,o,G,_⟩:=I.ok.funs.mem hb;exact I.base.free b o G (I.ok.frf b hb) λz=>I.ok.exfs b z hb
def Inv.step {g':Array GenState}{t':Nat}{d':Drawn}{ch:List Addr}(I:Inv X ah σ H s)
  (G:∀b∈ch,(b∈X.ex∨X.s₀.heap.objs.size<=b)/\b≠X.env.locals/\(∀x c,X.env.cells.lookup x=some c->c≠b)/\∀p∈X.pn++ah,p.1≠b)
  (keep:∀b o,b≠X.env.locals->b∉X.fs->b∉ch->s.heap.get? b=some o->H b=none->h'.get? b=some o)
  (slot:∀b o,b≠X.env.locals->b∈X.fs->b∉ch->s.heap.get? b=some o->H b=none->∃sl,h'.get? b=some { o with slots:=sl }) (free:∀b o,b∉ch->s.heap.get? b=some o->H b=none->H' b=none)
  (there:∀b o,b∉ch->s.heap.get? b=some o->∃o',h'.get? b=some o')
  (tups:∀b xs,H b=some (.tup xs)->H' b=some (.tup xs)) (frzs:∀b o u,H b=some (.frz o u)->H' b=some (.frz o u)) (tbls:∀b q,H b=some (.tbl q)->H' b=some (.tbl q))
  (ns:∀m,s.heap.Ns X.env.locals m->h'.Ns X.env.locals m) (hok:lJ X.prog X.w H' h') (hg:AllBare g'):
  Inv X ah σ H' { s with heap:=h',gens:=g',drawn:=d',toks:=t' }:=by
 have TX:∀b o,X.s₀.heap.get? b=some o->b≠X.env.locals:=λb o e=>vS (vQ (vX e) I.ok.above);have T:∀b o,X.s₀.heap.get? b=some o->b∉X.ex->b∉ch:=λb o e hx hb=>by
  rcases (G b hb).1 with z|z
  ·exact hx z
  ·exact absurd (vQ (vX e) z) (Nat.lt_irrefl _)
 have M:∀x c,X.env.cells.lookup x=some c->∀v,s.heap.IsCell c v->h'.IsCell c v:=λx c e v ⟨o,ho,hd⟩=>by
  have O:c∉ch:=λz=>(G c z).2.2.1 x c e rfl;by_cases hc:c∈X.fs
  ·obtain⟨sl,q⟩:=slot c o (I.cne x c e) hc O ho (I.freeC x c e);exact⟨_,q,hd⟩
  ·exact⟨o,keep c o (I.cne x c e) hc O ho (I.freeC x c e),hd⟩
 refine⟨I.ok,I.os,hg,⟨λb o e n hb hx=>?_,λb o e n hb hx=>?_,λb o e n hx=>?_,λb o e hx=>?_,λb xs e=>tups b xs (I.base.tups b xs e),λb o xs e=>frzs b o xs (I.base.frzs b o xs e),λb ps e=>?_⟩,?_,λx c e=>?_,?_,λx c e=>?_,λp hp=>?_,hok,I.len⟩
 ·exact keep b o (TX b o e) hb (T b o e hx) (I.base.keep b o e n hb hx) (I.base.free b o e n hx)
 ·obtain⟨sl,U⟩:=I.base.slot b o e n hb hx;obtain⟨Wb,e2⟩:=slot b _ (TX b o e) hb (T b o e hx) U (I.base.free b o e n hx);exact⟨Wb,e2⟩
 ·obtain⟨o',U⟩:=I.base.there b o e hx;exact free b o' (T b o e hx) U (I.base.free b o e n hx)
 ·obtain⟨o',U⟩:=I.base.there b o e hx;exact there b o' (T b o e hx) U
 ·exact tbls b _ (I.base.tbls b ps e)
 ·obtain⟨m,hn,hl⟩:=I.loc;refine⟨m,ns m hn,λi x v U e2 e3=>?_⟩;obtain⟨u,r,l⟩:=hl i x v U e2 e3;refine⟨u,r,?_⟩;rcases l with l|⟨k,c,e,z⟩
  ·exact .inl l
  ·exact .inr ⟨k,c,e,M x c e _ z⟩
 ·obtain⟨v,z⟩:=I.cell x c e;exact⟨v,M x c e v z⟩
 ·obtain⟨m,⟨o,_,_,ho,_⟩,_⟩:=I.loc;exact free _ o (λz=>(G _ z).2.1 rfl) ho I.free
 ·obtain⟨v,o,ho,hd⟩:=I.cell x c e;exact free c o (λz=>(G c z).2.2.1 x c e rfl) ho (I.freeC x c e)
 ·obtain⟨e,n,ne,nf,d⟩:=I.pin p hp;have O:p.1∉ch:=λz=>(G p.1 z).2.2.2 p hp rfl;exact⟨keep p.1 p.2 ne nf O e n,free p.1 p.2 O e n,ne,nf,d⟩
def Inv.un {t':Nat}(I:Inv X ah σ H s)(u:Un X.fs [] H H' s.heap h')(hok:lJ X.prog X.w H' h'):Inv X ah σ H' { s with heap:=h',toks:=t' }:=by
 obtain⟨m,⟨o,es,ep,T,r⟩,_⟩:=id I.loc;obtain⟨sl,U⟩:=u.any T I.free (by simp);exact I.step (g':=s.gens) (d':=s.drawn) (ch:=[]) (λ_ z=>nomatch z) (λb o _ hb _ e n=>u.keep b o e n hb (by simp)) (λb o _ hb _ e n=>u.slot b o e n hb (by simp)) (λb o _ e n=>u.free b o e n (by simp)) (λb o _ e=>u.there b o e (by simp)) u.tups u.frzs u.tbls (λm' hm=>by
  obtain⟨o',M,O,G,r'⟩:=hm;rw[T]at G;cases G;exact⟨_,M,O,U,r'⟩) hok I.bare
def Inv.call {g':Array GenState}{t':Nat}{d':Drawn}{ch:List Addr}(I:Inv X ah σ H s)(u:Un (E8 X.stack) ch H H' s.heap h')(hok:lJ X.prog X.w H' h')(hg:AllBare g')
  (G:∀b∈ch,(b∈X.ex∨X.s₀.heap.objs.size<=b)/\b≠X.env.locals/\(∀x c,X.env.cells.lookup x=some c->c≠b)/\∀p∈X.pn++ah,p.1≠b):
  Inv X ah σ H' { s with heap:=h',gens:=g',drawn:=d',toks:=t' }:=by
 obtain⟨m,⟨o,es,ep,ho,r⟩,_⟩:=id I.loc;obtain⟨sl,O⟩:=u.any ho I.free λz=>(G _ z).2.1 rfl;exact I.step (ch:=ch) G (λb o O hb hc e n=>u.keep b o e n (λz=>(vP (I.stkSub b z)).elim O hb) hc) (λb o _ _ hc e n=>u.any e n hc) (λb o hc e n=>u.free b o e n hc) (λb o hc e=>u.there b o e hc) u.tups u.frzs u.tbls (λm' hm=>by
  obtain⟨o',T,U,M,r'⟩:=hm;rw[ho]at M;cases M;exact⟨_,T,U,O,r'⟩) hok hg
def Inv.turned {t':Nat}{it:Addr}(I:Inv X ah σ H s)(k:∀b o,b≠it->s.heap.get? b=some o->h'.get? b=some o)(hn:H it=none)(M:it≠X.env.locals)
  (h1:it∈X.ex∨X.s₀.heap.objs.size<=it) (h2:∀x c,X.env.cells.lookup x=some c->c≠it) (h3:∀p∈X.pn++ah,p.1≠it):Inv X ah σ H { s with heap:=h',toks:=t' }:=by
 have G:∀b u,H b=some u->b≠it:=λb u e z=>by rw[z,hn]at e;cases e
 refine I.step (g':=s.gens) (d':=s.drawn) (ch:=[it]) (λb hb=>?_) (λb o _ _ hc e _=>k b o (λz=>hc (by simp[z])) e) (λb o _ _ hc e _=>⟨o.slots,k b o (λz=>hc (by simp[z])) e⟩) (λ_ _ _ _ n=>n)
  (λb o hc e=>⟨o,k b o (λz=>hc (by simp[z])) e⟩) (λ_ _ e=>e) (λ_ _ _ e=>e) (λ_ _ e=>e) (λm hm=>?_) (λb u e=>?_) I.bare
 ·have e:b=it:=by simpa using hb
  subst e;exact⟨h1,M,h2,h3⟩
 ·obtain⟨o,es,O,T,r⟩:=hm;exact⟨o,es,O,k _ o (Ne.symm M) T,r⟩
 ·refine(I.hok b u e).stay (λc v hc q=>k c v ?_ q) (λ_ q=>q) (λ_ _ q=>q) λ_ _ _ q=>q;rcases hc with z|z
  ·rw[z];exact G b u e
  ·exact G c _ z
def Inv.tok (I:Inv X ah σ H s)(t:Nat):Inv X ah σ H { s with toks:=t }:=I.un (h':=s.heap) (t':=t) Un.refl I.hok
def Inv.kept (I:Inv X ah σ H s)(k:∀b u,s.heap.get? b=some u->h'.get? b=some u):Inv X ah σ H { s with heap:=h',toks:=t' }:=I.un (Un.kept k) (I.hok.kept k)
def Inv.laid (I:Inv X ah σ H s)(k:∀b u,s.heap.get? b=some u->h'.get? b=some u)(hp:s.heap.objs.size<=a)(new:bR X.prog X.w (upd H a o) h' a o):
  Inv X ah σ (upd H a o) { s with heap:=h',toks:=t' }:=I.un (Un.laid k hp (I.hok.fresh hp)) (I.hok.laid k hp new)
def Inv.write (I:Inv X ah σ H s)(M:Oh (H x))(he:e=x∨H e=some (.own x))(k:∀b u,b≠e->s.heap.get? b=some u->h'.get? b=some u)(G:∃u,h'.get? e=some u)
  (new:bR X.prog X.w (upd H x o) h' x o):Inv X ah σ (upd H x o) { s with heap:=h',toks:=t' }:=I.un (Un.write M he k G) (I.hok.write M he k G new)
def Inv.pins_of (I:Inv X ah σ H s)(h:∀p∈pins',s.heap.get? p.1=some p.2/\H p.1=none/\p.1≠X.env.locals/\p.1∉X.fs/\∀v,p.2.data≠.cell v):Inv X pins' σ H s :=
 ⟨I.ok,I.os,I.bare,I.base,I.loc,I.cell,I.free,I.freeC,λp hp=>(mem_append.mp hp).elim (λz=>I.pin p (mem_append_left _ z)) (h p),I.hok,I.len⟩
def yh {N:LS}(G:N.Nodup){i j:Nat}{x:Str}(a:N[i]? = some x)(b:N[j]? = some x):i=j:=by
 obtain⟨h1,M⟩:=vV a;obtain⟨h2,e2⟩:=vV b;exact(List.getElem_inj G).mp (M.trans e2.symm)
def uo {M:Model}{A:Around}{E:QV}{i:Nat}{x:Str}{v:V}{u:Value}{Q:Unit->Shared->Prop}(I:Inv X ah σ H s)(hN:X.N.Nodup)(hi:X.N[i]? = some x)(hx:EG X.env.scope x)(r:be v u)
  (h:∀s',Inv X ah (σ.set i (some v)) H s'->(∃a,Heap.SameBut a s.heap s'.heap/\(a=X.env.locals∨X.env.cells.lookup x=some a))->Q () s') (hf:X.fn x=true∨X.env.scope.names.lookup x=some .local:=by first|exact .inl rfl|exact .inr rfl|assumption):wpAny M A (storeName X.env x u) Q E s:=by
 obtain⟨m,hn,hl⟩:=id I.loc;have Sc:(X.env.scope.kind == .class || (X.env.scope.kind == .module && X.env.locals != X.env.globals))=false:=by rw[I.ok.kind];rfl
 have U:i<σ.length:=by rw[I.len];exact(vV hi).1
 have cne:=I.cne;have G:∀ {a:Addr}{h':Heap},(∃o,s.heap.get? a=some o/\H a=none)->Heap.SameBut a s.heap h'->lJ X.prog X.w H h':=λ{a h'} ha hs b ob e=>by
  obtain⟨_,_,T⟩:=ha;refine(I.hok b ob e).stay (λc w' hc q=>(hs.2 c ?_).trans q) (λ_ q=>q) (λ_ _ q=>q) λ_ _ _ q=>q;rintro rfl;rcases hc with rfl|hc
  ·rw[T]at e;cases e
  ·rw[T]at hc;cases hc
 rcases hx with hk|hk
 ·refine wpAny_storeName_local hk hn (λh' Sd hs=>?_) Sc;obtain⟨oL,_,_,PJ,_⟩:=id hn;refine h _ ⟨I.ok,I.os,I.bare,⟨λb o e n hb hx=>?_,λb o e n hb hx=>?_,I.base.free,λb o e hx=>?_,I.base.tups,I.base.frzs,I.base.tbls⟩,⟨_,Sd,λj y v' O e2 e3=>?_⟩,λy c e=>?_,I.free,I.freeC,λp hp=>?_,G ⟨oL,PJ,I.free⟩ hs,by simpa using I.len⟩ ⟨_,hs,.inl rfl⟩
  ·exact(hs.2 b (vS (vQ (vX e) I.ok.above))).trans (I.base.keep b o e n hb hx)
  ·obtain⟨sl,O⟩:=I.base.slot b o e n hb hx;exact⟨sl,(hs.2 b (vS (vQ (vX e) I.ok.above))).trans O⟩
  ·obtain⟨o',O⟩:=I.base.there b o e hx;exact⟨o',(hs.2 b (vS (vQ (vX e) I.ok.above))).trans O⟩
  ·by_cases hj:j=i
   ·subst hj;rw[hi]at O;cases O;rw[List.getElem?_set_self U]at e2;cases e2
    exact⟨u,r,.inl ⟨hk,by simp⟩⟩
   ·rw[vB (Ne.symm hj)]at e2;obtain⟨u',r',q⟩:=hl j y v' O e2 e3;refine⟨u',r',?_⟩;rcases q with⟨k,e⟩|⟨k,c,e,z⟩
    ·refine .inl ⟨k,?_⟩;have:y≠x:=λe=>hj (yh hN O (e ▸ hi));simp[this,e]
    ·exact .inr ⟨k,c,e,z.sameBut hs (cne y c e)⟩
  ·obtain⟨w',z⟩:=I.cell y c e;exact⟨w',z.sameBut hs (cne y c e)⟩
  ·obtain⟨e,n,ne,nf,d⟩:=I.pin p hp;exact⟨(hs.2 p.1 ne).trans e,n,ne,nf,d⟩
 ·have Se:X.fn x=true:=by
   rcases hf with z|z
   ·exact z
   ·rw[z]at hk;cases hk
  obtain⟨c,hc⟩:=I.ok.has x (.inl hk);obtain⟨w',z⟩:=I.cell x c hc;refine wpAny_storeName_cell I.ok.kind hk hc z (λh' Nq hs=>?_);obtain⟨oc,K1,Sf⟩:=id z;refine h { s with heap:=h' } ⟨I.ok,I.os,I.bare,⟨λb o e n hb hx=>?_,λb o e n hb hx=>?_,I.base.free,λb o e hx=>?_,I.base.tups,I.base.frzs,I.base.tbls⟩,⟨m,hn.sameBut hs (Ne.symm (cne x c hc)),λj y v' O e2 e3=>?_⟩,λy c' e=>?_,I.free,I.freeC,λp hp=>?_,G ⟨oc,K1,I.freeC x c hc⟩ hs,by simpa using I.len⟩ ⟨c,hs,.inr hc⟩
  ·exact(hs.2 b (vS (vQ (vX e) (I.ok.cab x c Se hc)))).trans (I.base.keep b o e n hb hx)
  ·obtain⟨sl,O⟩:=I.base.slot b o e n hb hx;exact⟨sl,(hs.2 b (vS (vQ (vX e) (I.ok.cab x c Se hc)))).trans O⟩
  ·obtain⟨o',O⟩:=I.base.there b o e hx;exact⟨o',(hs.2 b (vS (vQ (vX e) (I.ok.cab x c Se hc)))).trans O⟩
  ·by_cases hj:j=i
   ·subst hj;rw[hi]at O;cases O;rw[List.getElem?_set_self U]at e2;cases e2
    exact⟨u,r,.inr ⟨.inl hk,c,hc,Nq⟩⟩
   ·rw[vB (Ne.symm hj)]at e2;obtain⟨u',r',q⟩:=hl j y v' O e2 e3;refine⟨u',r',?_⟩;rcases q with q|⟨k,c',e,z'⟩
    ·exact .inl q
    ·refine .inr ⟨k,c',e,z'.sameBut hs ?_⟩;rintro rfl;exact hj (yh hN O (I.ok.inj _ _ _ e hc ▸ hi))
  ·by_cases hcc:c'=c
   ·subst hcc;exact⟨_,Nq⟩
   ·obtain⟨w2,z2⟩:=I.cell y c' e;exact⟨w2,z2.sameBut hs hcc⟩
  ·obtain⟨e,n,ne,nf,d⟩:=I.pin p hp;refine⟨(hs.2 p.1 ?_).trans e,n,ne,nf,d⟩;intro q;rw[q,K1]at e;have q':oc=p.2:=vK e;exact d w' (by rw[←q'];exact Sf)
def yi {M:Model}{A:Around}{E:QV}{i:Nat}{x:Str}{v:V}{u:Value}{Q:Unit->Shared->Prop}(I:Inv X ah σ H s)(G:X.N.Nodup)(hi:X.N[i]? = some x)(hx:EG X.env.scope x)(r:be v u)
  (h:∀s',Inv X ah (σ.set i (some v)) H s'->Q () s') (hf:X.fn x=true∨X.env.scope.names.lookup x=some .local:=by first|exact .inl rfl|exact .inr rfl|assumption):wpAny M A (storeName X.env x u) Q E s :=
 uo I G hi hx r (λs' O _=>h s' O) hf
def Inv.call' (I:Inv X ah σ H s)(M:s'.os=s.os)(u:Un (E8 X.stack) ch H H' s.heap s'.heap)(hok:lJ X.prog X.w H' s'.heap)(O:AllBare s'.gens)
  (G:∀b∈ch,(b∈X.ex∨X.s₀.heap.objs.size<=b)/\b≠X.env.locals/\(∀x c,X.env.cells.lookup x=some c->c≠b)/\∀p∈X.pn++ah,p.1≠b):Inv X ah σ H' s':=by
 obtain⟨h',g',d',t',o'⟩:=s';have e:o'=s.os:=M;subst e;exact I.call (g':=g') (t':=t') (d':=d') u hok O G
end
abbrev XK:=Value->Option Addr->Hp->Prop
abbrev St:=List (Option V)
abbrev VK:=V->Hp->Prop
abbrev TE:=St->Hp->VK->Prop
abbrev TT:=St->Hp->(Bool->Hp->Prop)->Prop
abbrev TA:=St->Hp->(List V->Hp->Prop)->Prop
structure Ends where
 nx:St->Hp->Prop
 rt:VK
 bk:St->Hp->Prop:=λ_ _=>False
 ct:St->Hp->Prop:=λ_ _=>False
abbrev TS:=Ends->St->Hp->Prop
def EP (X:Cx)(ah:AO)(σ:St)(Q:VK)(u:Value)(s':Shared):Prop:=∃v H',Inv X ah σ H' s'/\be v u/\Q v H'
def TP (X:Cx)(ah:AO)(σ:St)(Q:Bool->Hp->Prop)(b:Bool)(s':Shared):Prop:=∃H',Inv X ah σ H' s'/\Q b H'
def AP (X:Cx)(ah:AO)(σ:St)(Q:List V->Hp->Prop)(us:LU)(s':Shared):Prop:=∃vs H',Inv X ah σ H' s'/\b7 vs us/\Q vs H'
def SP (X:Cx)(ah:AO)(D:Ends)(f:Flow)(s':Shared):Prop :=
 match f with
 |.next=>∃G H',Inv X ah G H' s'/\D.nx G H'
 |.brk=>∃G H',Inv X ah G H' s'/\D.bk G H'
 |.cont=>∃G H',Inv X ah G H' s'/\D.ct G H'
 |.ret u=>∃v G H',Inv X ah G H' s'/\be v u/\D.rt v H'
def PE (X:Cx)(e:Expr)(t:TE):Prop :=
 ∀(ah:AO)(s:Shared)(σ:St)(H:Hp)(Q:VK),Inv X ah σ H s->t σ H Q->wq X (eval e X.env) (EP X ah σ Q) X.xe s
def PT (X:Cx)(e:Expr)(t:TT):Prop :=
 ∀(ah:AO)(s:Shared)(σ:St)(H:Hp)(Q:Bool->Hp->Prop),Inv X ah σ H s->t σ H Q->wq X (isTrue e X.env (eval e X.env)) (TP X ah σ Q) X.xe s
def PW (X:Cx)(e:Expr)(t:TT):Prop :=
 ∀(G:Sem Value)(ah:AO)(s:Shared)(σ:St)(H:Hp)(Q:Bool->Hp->Prop),Inv X ah σ H s->t σ H Q->wq X (isTrue e X.env G) (TP X ah σ Q) X.xe s
def PW.pt (h:PW X e t):PT X e t:=h _
def PA (X:Cx)(es:QD)(t:TA):Prop :=
 ∀(G:Pos)(ah:AO)(s:Shared)(σ:St)(H:Hp)(Q:List V->Hp->Prop),Inv X ah σ H s->t σ H Q->wq X (spliced (backTo G (starEach es X.env))) (AP X ah σ Q) X.xe s
def PS (X:Cx)(st:Stmt)(t:TS):Prop :=
 ∀(ah:AO)(s:Shared)(σ:St)(H:Hp)(D:Ends),Inv X ah σ H s->t D σ H->wq X (exec st X.env) (SP X ah D) X.xe s
def tU (X:Cx)(st:List Stmt)(t:TS):Prop :=
 ∀(ah:AO)(s:Shared)(σ:St)(H:Hp)(D:Ends),Inv X ah σ H s->t D σ H->wq X (execs st X.env) (SP X ah D) X.xe s
def c7 {α:Type}{t:Sem α}{Q G:α->Shared->Prop}{M:Model}{A:Around}{E:QV}{s:Shared}(h:wpAny M A t Q E s)(O:∀a s,Q a s->G a s):wpAny M A t G E s:=wpAny_mono h O λ_ _ x=>x
section
variable {X:Cx}
def om (i:Nat):TE:=λσ H Q=>∃v,σ[i]? = some (some v)/\Q v H
def tC (v:V):TE:=λ_ H Q=>Q v H
def q9 (O:X.N[i]? = some x)(hv:L1 X.env.scope x)(hd:(x == ("__debug__" : Str))=false:=by decide)(M:(x == ("__classdict__" : Str))=false:=by decide):PE X (.Name x pos) (om i):=by
 intro ah s σ H Q I h;obtain⟨v,e,h⟩:=h;obtain⟨m,hn,hl⟩:=I.loc;obtain⟨u,r,l⟩:=hl i x v O e hv;have ju:EP X ah σ Q u s:=⟨v,H,I,r,h⟩;rcases l with⟨hk,hm⟩|⟨hk,c,hc,G⟩
 ·exact wpAny_Name (wpAny_loadName_local I.ok.kind hk hn hm ju) hd
 ·rcases hk with hk|hk
  ·exact wpAny_Name (wpAny_loadName_cell I.ok.kind hk hc G ju) hd
  ·exact wpAny_Name (wpAny_loadName_free I.ok.kind hk hc G ju M) hd
def L3 {i j pos}:PE X (.Constant (.int i) j pos) (tC (.int i)):=λ_ _ _ H _ I h=>wpAny_Constant_int ⟨.int i,H,I.tok _,⟨_,rfl⟩,h⟩
def Oi {b j pos}:PE X (.Constant (.bool b) j pos) (tC (.bl b)):=λ_ _ _ H _ I h=>Constant_bool ⟨.bl b,H,I,rfl,h⟩
def L4 {j pos}:PE X (.Constant .none j pos) (tC .non):=λ_ _ _ H _ I h=>Constant_none ⟨.non,H,I,rfl,h⟩
def L5 {x j pos}:PE X (.Constant (.str x) j pos) (tC (.str x)):=λ_ _ _ H _ I h=>Calls.Constant_str ⟨.str x,H,I.tok _,⟨_,rfl⟩,h⟩
def Gl (X:Cx)(x:Str):Prop:=X.env.kindOf x=some .globalImplicit
def wC {E:QV}{ah:AO}{s:Shared}{σ:St}{H:Hp}{x:Str}{u:Value}{G:Pos}{Q:QV}(I:Inv X ah σ H s)(M:Gl X x)(hm:X.mg x=some u)(h:Q u s)
  (hd:(x == ("__debug__" : Str))=false:=by decide):wq X (eval (.Name x G) X.env) Q E s :=
 Calls.Name_function_global I.ok.kind M (Calls.loadGlobal_global (by rw[I.ok.glob];exact I.mod.glob.keeps I.bk) hm h) hd
def i6 {E:QV}{ah:AO}{s:Shared}{σ:St}{H:Hp}{x:Str}{u:Value}{G:Pos}{Q:QV}(I:Inv X ah σ H s)(M:Gl X x)(hm:X.mg x=none)(hv:bootBuiltins x=some u)(h:Q u s)
  (hn:x ≠ "__name__":=by decide) (hd:(x == ("__debug__" : Str))=false:=by decide):wq X (eval (.Name x G) X.env) Q E s:=by
 obtain⟨mb,h1,h2⟩:=I.mod.blt;exact Calls.Name_function_global I.ok.kind M (Calls.loadGlobal_builtin (by rw[I.ok.glob];exact I.mod.glob.keeps I.bk) hm (by rw[I.ok.blt];exact h1.keeps I.bk) ((h2 x hn).trans hv) h) hd
def qi (G:Gl X x)(hm:X.mg x=some u)(r:be v u)(hd:(x == ("__debug__" : Str))=false:=by decide):PE X (.Name x pos) (tC v) :=
 λ_ _ _ H _ I h=>wC I G hm ⟨v,H,I,r,h⟩ hd
def Im (G:Gl X x)(hm:X.mg x=none)(hv:bootBuiltins x=some u)(r:be v u)(hn:x ≠ "__name__":=by decide)(hd:(x == ("__debug__" : Str))=false:=by decide):PE X (.Name x pos) (tC v) :=
 λ_ _ _ H _ I h=>i6 I G hm hv ⟨v,H,I,r,h⟩ hn hd
def UY (ta tb:TE)(k:Int->Int->Hp->Prop):St->Hp->Prop:=λσ H=>ta σ H λx G=>tb σ G λy H2=>∃i j,x=.int i/\y=.int j/\k i j H2
variable {a b:Expr}{ta tb:TE}{pos:Pos}
def PC (X:Cx)(op:CmpOp)(a b:Expr)(t:TE):Prop :=
 ∀(ah:AO)(s:Shared)(σ:St)(H:Hp)(Q:VK),Inv X ah σ H s->t σ H Q ->
  wq X (eval a X.env) (λv G=>wq X (eval b X.env) (λu M=>wq X (compareOp op v u) (EP X ah σ Q) X.xe M) X.xe G) X.xe s
def km (b:Expr){op:CmpOp}(h:op≠.In)(h2:op≠.NotIn):behindInMarks op b=false:=by
 have G:(op == CmpOp.In)=false:=by cases op<;>first|rfl|exact absurd rfl h
 have e2:(op == CmpOp.NotIn)=false:=by cases op<;>first|rfl|exact absurd rfl h2
 cases b<;>simp[behindInMarks,G,e2]
def Rb (p:Int->Int->Bool)(ta tb:TE):TE:=λσ H Q=>UY ta tb (λi j H2=>Q (.bl (p i j)) H2) σ H
abbrev L6:TE->TE->TE:=Rb λi j=>decide (i<j)
def tB (t:TE):TT:=λσ H Q=>t σ H λx G=>∃c,x=.bl c/\Q c G
def L7 (h:PC X op a b t)(h1:behindInMarks op b=false:=by first|exact km _ (by decide) (by decide)|rfl):PE X (.Compare a [op] [b] pos) t:=λah s σ H Q I hw=>wpAny_Compare1 (h ah s σ H Q I hw) h1
def L8 {e:Expr}{t:TE}(h:PE X e t)(he:∀G,isTrue e X.env G=(do let v ←G;standAt e.pos;holding [v] (truthy v)):=by intro _;rfl):PT X e (tB t):=by
 intro ah s σ H Q I hw;refine isTrue_plain (c7 (h ah s σ H _ I hw) λv s1 ⟨x,M,O,T,U⟩=>?_) (he _);obtain⟨d,rfl,q⟩:=U;cases T
 exact wpAny_truthy_bool ⟨M,O,q⟩
variable {tA QG:TT}{ax:QD}
def Oj (t u:TT):TT:=λσ H Q=>t σ H λc G=>if c=true then u σ G Q else Q false G
def To (t u:TT):TT:=λσ H Q=>t σ H λc G=>if c=true then Q true G else u σ G Q
def Ol (t:TT):TT:=λσ H Q=>t σ H λc G=>Q (!c) G
def Io (ha:PT X a tA):PW X (.BoolOp .And [a] pos) tA:=by
 intro G ah s σ H Q I h;refine isTrue_and (c7 (ha ah s σ H Q I h) λc s1 e=>?_);cases c with
 |true=>exact isTrue_and_nil e
 |false=>exact e
def L9 (ha:PT X a tA):PW X (.BoolOp .Or [a] pos) tA:=by
 intro G ah s σ H Q I h;refine isTrue_or (c7 (ha ah s σ H Q I h) λc s1 e=>?_);cases c with
 |false=>exact isTrue_or_nil e
 |true=>exact e
def LA (ha:PT X a tA)(hb:PW X (.BoolOp .And (b::ax) pos) QG):PW X (.BoolOp .And (a::b::ax) pos) (Oj tA QG):=by
 intro T ah s σ H Q I h;refine isTrue_and (c7 (ha ah s σ H _ I h) λc s1 ⟨G,M,O⟩=>?_);cases c with
 |true=>exact hb T ah s1 σ G Q M O
 |false=>exact⟨G,M,O⟩
def Om (ha:PT X a tA)(hb:PW X (.BoolOp .Or (b::ax) pos) QG):PW X (.BoolOp .Or (a::b::ax) pos) (To tA QG):=by
 intro T ah s σ H Q I h;refine isTrue_or (c7 (ha ah s σ H _ I h) λc s1 ⟨G,M,O⟩=>?_);cases c with
 |true=>exact⟨G,M,O⟩
 |false=>exact hb T ah s1 σ G Q M O
def LB (ha:PT X a tA):PT X (.UnaryOp .Not a pos) (Ol tA):=by
 intro ah s σ H Q I h;exact isTrue_not (ha ah s σ H (λc G=>Q (!c) G) I h)
def Oo (ta tb:TE):TE:=λσ H Q=>ta σ H λx G=>∃c,x=.bl c/\if c=true then tb σ G Q else Q (.bl false) G
def Re (ta tb:TE):TE:=λσ H Q=>ta σ H λx G=>∃c,x=.bl c/\if c=true then Q (.bl true) G else tb σ G Q
def Op (ta:TE):TE:=λσ H Q=>ta σ H λx G=>∃c,x=.bl c/\Q (.bl (!c)) G
def LC {op}(h:PE X a t):PE X (.BoolOp op [a] pos) t:=λah s σ H Q I hw=>BoolOp_one (h ah s σ H Q I hw)
def LF (ha:PE X a ta)(hb:PE X (.BoolOp .And (b::ax) pos) tb):PE X (.BoolOp .And (a::b::ax) pos) (Oo ta tb):=by
 intro ah s σ H Q I h;refine BoolOp_and (c7 (ha ah s σ H _ I h) λv s1 ⟨x,M,O,T,G⟩=>?_);obtain⟨c,rfl,G⟩:=G;cases T
 refine wpAny_truthy_bool ?_;cases c with
 |true=>exact hb ah s1 σ M Q O G
 |false=>exact⟨.bl false,M,O,rfl,G⟩
def Oq (ha:PE X a ta)(hb:PE X (.BoolOp .Or (b::ax) pos) tb):PE X (.BoolOp .Or (a::b::ax) pos) (Re ta tb):=by
 intro ah s σ H Q I h;refine BoolOp_or (c7 (ha ah s σ H _ I h) λv s1 ⟨x,M,O,T,G⟩=>?_);obtain⟨c,rfl,G⟩:=G;cases T
 refine wpAny_truthy_bool ?_;cases c with
 |false=>exact hb ah s1 σ M Q O G
 |true=>exact⟨.bl true,M,O,rfl,G⟩
def LG (ha:PE X a ta):PE X (.UnaryOp .Not a pos) (Op ta):=by
 intro ah s σ H Q I h;refine UnaryOp_ (c7 (ha ah s σ H _ I h) λv s1 ⟨x,M,O,T,G⟩=>?_);obtain⟨c,rfl,G⟩:=G;cases T
 exact not_of (wpAny_truthy_bool ⟨.bl (!c),M,O,rfl,G⟩)
end
def gT (K:Frag)(H:Hp)(a:Addr)(xs:List V):Prop :=
 Rd H a (.lst xs) ∨
  ∃(o:Obj)(its:AV)(n:Nat),K.lookup a=some o/\o.cls=.type "list"/\o.dict=none/\o.data=.seq its n/\its.size<=sizeLine/\b7 xs its.toList
def js (K:Frag)(H:Hp)(a:Addr)(xs:List V):Prop :=
 Rd H a (.tup xs) ∨
  ∃(o:Obj)(its:AV)(n:Nat),K.lookup a=some o/\o.cls=.type "tuple"/\o.data=.seq its n/\its.size<=sizeLine/\b7 xs its.toList
noncomputable def Rf:Value->Option V
 |.none=>some .non
 |.bool b=>some (.bl b)
 |.int i _=>some (.int i)
 |.str x _=>some (.str x)
 |.bytes b _=>some (.byt b)
 |.float b _=>some (.flt b)
 |.ref a=>some (.ref a)
 |.type n=>some (.ty n)
 |_=>none
def be.abs (r:be x u):Rf u=some x:=by
 cases x with
 |non=>cases r;rfl
 |bl _=>cases r;rfl
 |int _=>obtain⟨t,rfl⟩:=r;rfl
 |str _=>obtain⟨t,rfl⟩:=r;rfl
 |byt _=>obtain⟨t,rfl⟩:=r;rfl
 |flt _=>obtain⟨t,rfl⟩:=r;rfl
 |ref _=>cases r;rfl
 |ty _=>cases r;rfl
def be.inj (r:be x u)(q:be y u):x=y:=vK (r.abs.symm.trans q.abs)
theorem b7.inj:∀ {xs ys:List V}{us:LU},b7 xs us->b7 ys us->xs=ys
 |_,_,_,.nil,.nil=>rfl
 |_,_,_,.cons r t,.cons G t'=>by rw[r.inj G,b7.inj t t']
section
variable {X:Cx}{ah:AO}{σ:St}{H:Hp}{s:Shared}{a:Addr}{xs ys:List V}
def gT.of {K:Frag}(h:H a=some (.lst xs)):gT K H a xs:=.inl (.inl h)
def js.of {K:Frag}(h:H a=some (.tup xs)):js K H a xs:=.inl (.inl h)
def Inv.list (I:Inv X ah σ H s)(h:gT X.K H a xs):∃its:LU,b7 xs its/\PlainL s.heap a its.toArray/\xs.length<=sizeLine:=by
 rcases h with h|⟨o,its,n,hk,hc,hd,hs,hz,r⟩
 ·obtain⟨z,its,n,r,e⟩:=h.ok I.hok;exact⟨its,r,⟨_,n,e,rfl,rfl,rfl⟩,z⟩
 ·refine⟨its.toList,r,⟨o,n,I.kIn a o hk,hc,hd,by simpa using hs⟩,?_⟩;have e:=r.length;simp only[vG]at e;omega
def Inv.tuple (I:Inv X ah σ H s)(h:js X.K H a xs):∃its:LU,b7 xs its/\IsTup s.heap a its.toArray/\xs.length<=sizeLine:=by
 rcases h with h|⟨o,its,n,hk,hc,hs,hz,r⟩
 ·obtain⟨z,its,r,p⟩:=h.ok I.hok;exact⟨its,r,p,z⟩
 ·refine⟨its.toList,r,⟨o,I.kIn a o hk,hc,n,by simpa using hs⟩,?_⟩;have e:=r.length;simp only[vG]at e;omega
def Inv.list_inj (I:Inv X ah σ H s)(h:gT X.K H a xs)(h':gT X.K H a ys):xs=ys:=by
 obtain⟨its,r,⟨o,n,e,_,_,d⟩,_⟩:=I.list h;obtain⟨its',M,⟨o',O,G,_,_,d'⟩,_⟩:=I.list h';rw[e]at G;cases G;rw[d]at d';injection d' with d1 _;have:its=its':=by simpa using congrArg Array.toList d1
 subst this;exact r.inj M
def Inv.tuple_inj (I:Inv X ah σ H s)(h:js X.K H a xs)(h':js X.K H a ys):xs=ys:=by
 obtain⟨its,r,⟨o,e,_,n,d⟩,_⟩:=I.tuple h;obtain⟨its',M,⟨o',G,_,O,d'⟩,_⟩:=I.tuple h';rw[e]at G;cases G;rw[d]at d';injection d' with d1 _;have:its=its':=by simpa using congrArg Array.toList d1
 subst this;exact r.inj M
end
noncomputable abbrev Cx.wish (X:Cx)(E:QV):Cx:={ X with xe:=E }
noncomputable abbrev Cx.nox (X:Cx):Cx:=X.wish λ_ _=>False
def Cx.Ok.wish {X:Cx}(ok:X.Ok)(E:QV):(X.wish E).Ok :=
 ⟨ok.mod,ok.kind,ok.glob,ok.blt,ok.above,ok.inj,ok.has,ok.cab,ok.hd,ok.frames,ok.stk,ok.exf,ok.bs,ok.bsz,ok.noex,ok.exfs,ok.funs,ok.frf⟩
def Cx.Ok.unwish {X:Cx}{E:QV}(ok:(X.wish E).Ok):X.Ok :=
 ⟨ok.mod,ok.kind,ok.glob,ok.blt,ok.above,ok.inj,ok.has,ok.cab,ok.hd,ok.frames,ok.stk,ok.exf,ok.bs,ok.bsz,ok.noex,ok.exfs,ok.funs,ok.frf⟩
section
variable {X:Cx}{ah:AO}{σ:St}{H:Hp}{s:Shared}{E:QV}
def Inv.wish (I:Inv X ah σ H s)(E:QV):Inv (X.wish E) ah σ H s:=⟨I.ok.wish E,I.os,I.bare,I.base,I.loc,I.cell,I.free,I.freeC,I.pin,I.hok,I.len⟩
def Inv.unwish (I:Inv (X.wish E) ah σ H s):Inv X ah σ H s:=⟨I.ok.unwish,I.os,I.bare,I.base,I.loc,I.cell,I.free,I.freeC,I.pin,I.hok,I.len⟩
def SP.unwish (h:SP (X.wish E) ah D f s'):SP X ah D f s':=by
 cases f with
 |next=>obtain⟨G,H',I,q⟩:=h;exact⟨G,H',I.unwish,q⟩
 |brk=>obtain⟨G,H',I,q⟩:=h;exact⟨G,H',I.unwish,q⟩
 |cont=>obtain⟨G,H',I,q⟩:=h;exact⟨G,H',I.unwish,q⟩
 |ret u=>obtain⟨v,G,H',I,r,q⟩:=h;exact⟨v,G,H',I.unwish,r,q⟩
def PE.nox (h:PE X.nox e t):PE X e t:=λah s σ H Q I hw=>
 wpAny_mono (h ah s σ H Q (I.wish _) hw) (λ_ _ ⟨v,H',G,r,q⟩=>⟨v,H',G.unwish,r,q⟩) λ_ _ z=>False.elim z
def PT.nox (h:PT X.nox e t):PT X e t:=λah s σ H Q I hw=>
 wpAny_mono (h ah s σ H Q (I.wish _) hw) (λ_ _ ⟨H',G,q⟩=>⟨H',G.unwish,q⟩) λ_ _ z=>False.elim z
def tU.nox {st:List Stmt}{t:TS}(h:tU X.nox st t):tU X st t:=λah s σ H D I hw=>
 wpAny_mono (h ah s σ H D (I.wish _) hw) (λ_ _ q=>q.unwish) λ_ _ z=>False.elim z
end
section
variable {X:Cx}{st:Stmt}{ax:List Stmt}{t u:TS}{e:Expr}{te:TE}{pos:Pos}
def EH:TS:=λD σ H=>D.nx σ H
def Ot (t u:TS):TS:=λD σ H=>t { D with nx:=u D } σ H
def BB:tU X [] EH:=λ_ _ σ H _ I h=>wpAny_execs_nil ⟨σ,H,I,h⟩
def EI (h1:PS X st t)(h2:tU X ax u):tU X (st::ax) (Ot t u):=by
 intro ah s σ H D I h;refine wpAny_execs_cons (c7 (h1 ah s σ H { D with nx:=u D } I h) λf s1 q=>?_);cases f with
 |next=>
  obtain⟨G,H',M,q⟩:=q;exact h2 ah s1 G H' D M q
 |ret v=>exact q
 |brk=>exact q
 |cont=>exact q
def BC (h1:PS X st t):tU X [st] t:=by
 intro ah s σ H D I h;refine wpAny_execs_cons (c7 (h1 ah s σ H D I h) λf s1 q=>?_);cases f with
 |next=>exact wpAny_execs_nil q
 |ret v=>exact q
 |brk=>exact q
 |cont=>exact q
def Ou:TS:=λD σ H=>D.ct σ H
def yj:PS X (.Continue pos) Ou:=λ_ _ σ H _ I h=>wpAny_Continue ⟨σ,H,I,h⟩
def Inv.quiet (I:Inv X ah σ H s):interactive X.env=false:=by simp[interactive,I.ok.kind]
def Ov (te:TE):TS:=λD σ H=>te σ H λ_ G=>D.nx σ G
def BD (he:PE X e te)(hs:swapsWith e none pos.line X.env=pure false:=by rfl):PS X (.Expr e pos) (Ov te):=by
 intro ah s σ H D I h;exact wpAny_Expr_any (c7 (he ah s σ H _ I h) λv s1 ⟨x,G,M,T,O⟩=>⟨σ,G,M,O⟩) I.quiet hs
def LH (te:TE):TS:=λD σ H=>te σ H D.rt
def EJ (he:PE X e te):PS X (.Return (some e) pos) (LH te):=by
 intro ah s σ H D I h;exact wpAny_Return_some (c7 (he ah s σ H _ I h) λv s1 ⟨x,G,M,O,T⟩=>⟨x,σ,G,M,O,T⟩)
def LJ (c:TT)(t u:TS):TS:=λD σ H=>c σ H λb G=>if b=true then t D σ G else u D σ G
def KE {c:Expr}{a b:List Stmt}{G:TT}(hc:PT X c G)(ha:tU X a t)(hb:tU X b u):PS X (.If c a b pos) (LJ G t u):=by
 intro ah s σ H D I h;refine wpAny_If (c7 (hc ah s σ H _ I h) λd s1 ⟨M,O,T⟩=>?_);cases d with
 |true=>exact ha ah s1 σ M D O T
 |false=>exact hb ah s1 σ M D O T
end
abbrev TG:=V->St->Hp->(St->Hp->Prop)->Prop
abbrev LL:=List V->St->Hp->(St->Hp->Prop)->Prop
def PG (X:Cx)(G:Expr)(t:TG):Prop :=
 ∀(ah:AO)(s:Shared)(σ:St)(H:Hp)(v:V)(u:Value)(Q:St->Hp->Prop),Inv X ah σ H s->be v u->t v σ H Q ->
  wq X (assign G X.env u) (λ_ s'=>∃M H',Inv X ah M H' s'/\Q M H') X.xe s
def Qy (X:Cx)(M:QD)(t:LL):Prop :=
 ∀(ah:AO)(s:Shared)(σ:St)(H:Hp)(vs:List V)(us:LU)(Q:St->Hp->Prop),Inv X ah σ H s->b7 vs us->t vs σ H Q ->
  wq X (assignInOrder ((assignEach M X.env).map (·.2)) us) (λ_ s'=>∃G H',Inv X ah G H' s'/\Q G H') X.xe s
section
variable {X:Cx}{pos:Pos}
def jv (i:Nat):TG:=λv σ H Q=>Q (σ.set i (some v)) H
def wD (G:X.N.Nodup)(hi:X.N[i]? = some x)(hx:EG X.env.scope x)(hf:X.fn x=true∨X.env.scope.names.lookup x=some .local:=by first|exact .inl rfl|exact .inr rfl|assumption):PG X (.Name x pos) (jv i):=by
 intro ah s σ H v u Q I r h;exact wpAny_assign_Name (yi I G hi hx r (λs' M=>⟨_,H,M,h⟩) hf)
def Ow:LL:=λvs σ H Q=>vs=[]/\Q σ H
def KG (t:TG)(u:LL):LL:=λvs σ H Q=>∃v r,vs=v::r/\t v σ H λG H'=>u r G H' Q
def qj:Qy X [] Ow:=by
 intro ah s σ H vs us Q I r h;obtain⟨e,h⟩:=h;subst e;cases r
 exact assignInOrder_nil ⟨σ,H,I,h⟩
def gK {e:Expr}{es:QD}{t:TG}{u:LL}(h1:PG X e t)(h2:Qy X es u)
  (hs:(assignEach (e::es) X.env).map (·.2)=assign e X.env::(assignEach es X.env).map (·.2):=by rfl):Qy X (e::es) (KG t u):=by
 intro ah s σ H vs us Q I r h;obtain⟨v,vr,M,h⟩:=h;subst M;cases r with
 |cons r O=>
  rw[hs];refine assignInOrder_cons (c7 (h1 ah s σ H _ _ _ I r h) λ_ s1 ⟨G,T,U,q1⟩=>?_);exact h2 ah s1 G T _ _ Q U O q1
def LM (K:Frag)(n:Nat)(t:LL):TG:=λv σ H Q=>∃a xs,v=.ref a/\js K H a xs/\xs.length=n/\t xs σ H Q
def wF (hc:X.calm=true)(h:Qy X es t)
  (hn:(assignEach es X.env).length=n:=by rfl) (G:(assignEach es X.env).findIdx? (·.1)=none:=by rfl):PG X (.Tuple es k pos) (LM X.K n t):=by
 intro ah s σ H v u Q I r hw;obtain⟨a,xs,O,hq,hl,hw⟩:=hw;subst O;cases r
 obtain⟨its,M,T,hz⟩:=I.tuple hq;refine assign_Tuple_tuple (I.ok.hd hc) T (by simp[hn,←hl,M.length]) G λh' hx=>?_;have U:Inv X ah σ H { s with heap:=h' }:=I.kept (t':=s.toks) λb o e=>hx b o (vS (vX e)) e;exact h ah _ σ H xs _ Q U (by simpa using M) hw
def Dt (G:TE)(g:TG):TS:=λD σ H=>G σ H λx M=>g x σ M D.nx
def wG {i:Nat}{x:Str}{e:Expr}{M:TE}{G:Pos}(O:X.N.Nodup)(hi:X.N[i]? = some x)(hx:EG X.env.scope x)(he:PE X e M)(hs:swapsWith e (some (.Name x G)) pos.line X.env=pure false:=by rfl)(hf:X.fn x=true∨X.env.scope.names.lookup x=some .local:=by first|exact .inl rfl|exact .inr rfl|assumption):
  PS X (.Assign [.Name x G] e pos) (Dt M (jv i)):=by
 intro ah s σ H D I h;refine wpAny_Assign_Name (c7 (he ah s σ H _ I h) λv s1 ⟨y,T,U,r1,q1⟩=>?_) hs;exact yi U O hi hx r1 (λs2 I2=>⟨_,T,I2,q1⟩) hf
end
section
variable {X:Cx}{pos:Pos}
def EK (c:TT)(tb:TS):TS:=λD σ H=>∃W:Nat->St->Hp->Prop,(∃m,W m σ H)/\∀m σ H,W m σ H ->
 c σ H λb M=>if b=true then ∃N:St->Hp->Prop,(∀G H',N G H'->∃O,O<m/\W O G H')/\tb { D with nx:=N,ct:=N,bk:=D.nx } σ M else D.nx σ M
def EL {c:Expr}{O:List Stmt}{tc:TT}{tb:TS}(hp:PassesOwn (model X.prog X.w) X.A X.env X.xe)(hc:PT X c tc)(hb:tU X O tb):PS X (.While c O [] pos) (EK tc tb):=by
 intro ah s σ H D I h;obtain⟨W,⟨m0,w0⟩,T⟩:=h;refine wpAny_While (codeAny_whileLoop (λn s'=>∃U H',Inv X ah U H' s'/\W n U H') ?_ m0 ⟨σ,H,I,w0⟩);rintro n s1 ⟨M,H1,I1,w1⟩;refine wpAny_passesOwn hp (c7 (hc ah s1 M H1 _ I1 (T n M H1 w1)) λb s2 ⟨H2,I2,q2⟩=>?_);cases b with
 |true=>
  obtain⟨N,hN,q2⟩:=q2;rw[if_pos rfl];refine wpAny_passesOwn hp (c7 (hb ah s2 M H2 _ I2 q2) λf s3 q3=>?_);cases f with
  |next=>
   obtain⟨G,H3,I3,n3⟩:=q3;obtain⟨m',hm,w3⟩:=hN G H3 n3;exact⟨m',hm,G,H3,I3,w3⟩
  |cont=>
   obtain⟨G,H3,I3,n3⟩:=q3;obtain⟨m',hm,w3⟩:=hN G H3 n3;exact⟨m',hm,G,H3,I3,w3⟩
  |brk=>exact q3
  |ret v=>exact q3
 |false=>
  rw[if_neg uX];exact wpAny_execs_nil ⟨M,H2,I2,q2⟩
end
structure It where
 go:Nat->Hp->Prop
 yld:Nat->Hp->V->Hp->Prop
 stop:Nat->Hp->Prop
def ma (X:Cx)(ah:AO)(H:Hp)(b:Addr):Prop :=
 H b=none/\b≠X.env.locals/\b∉X.fs/\(b∈X.ex∨X.s₀.heap.objs.size<=b)/\(∀x c,X.env.cells.lookup x=some c->c≠b)/\∀p∈X.pn++ah,p.1≠b
def Inv.fpOk (I:Inv X ah σ H s)(hb:s.heap.objs.size<=b)(hn:H' b=none):ma X ah H' b:=by
 refine⟨hn,ne_of_gt (vQ I.lt hb),I.nofs hb,.inr (vR I.sz hb),λx c e z=>?_,λp hp z=>?_⟩
 ·obtain⟨v,q⟩:=I.cell x c e;exact absurd (vQ q.lt (by rw[z];exact hb)) (Nat.lt_irrefl _)
 ·exact absurd (vQ (vX (I.pin p hp).1) (by rw[z];exact hb)) (Nat.lt_irrefl _)
structure Turn (P:Program)(w:World)(K:Frag)(tg:Expr)(J:It)(fp:List Addr)(it:Addr)(tn:Nat->Heap->Prop):Prop where
 mem:it∈fp
 obj:∀i h,tn i h->∀b∈fp,∃o,h.get? b=some o/\∀v,o.data≠.cell v
 keep:∀i h h',tn i h->(∀b∈fp,∀o,h.get? b=some o->h'.get? b=some o)->tn i h'
 item:∀(X:Cx),X.prog=P->X.w=w->X.K=K->X.calm=true->∀(i:Nat)(ah:List (Addr×Obj))(s:Shared)(σ:St)(H:Hp)(E:Value->Shared->Prop),Inv X ah σ H s->(∀b∈fp,ma X ah H b)->tn i s.heap->J.go i H ->
  wpAny (model P w) X.A (pyNext (.ref it)) (λr s1=>∃u,r=some u /\
   wpAny (model P w) X.A (letOwnedTupleGo tg (.ref it) u) (λ_ s2=>∃x H',Inv X ah σ H' s2/\be x u/\J.yld i H x H'/\tn (i+1) s2.heap/\∀b∈fp,H' b=none) E s1) E s
 done:∀(X:Cx),X.prog=P->X.w=w->X.K=K->X.calm=true->∀(i:Nat)(ah:List (Addr×Obj))(s:Shared)(σ:St)(H:Hp)(E:Value->Shared->Prop),Inv X ah σ H s->(∀b∈fp,ma X ah H b)->tn i s.heap->J.stop i H ->
  wpAny (model P w) X.A (pyNext (.ref it)) (λr s1=>r=none/\Inv X ah σ H s1) E s
 self:∀(A:Around)(i:Nat)(s:Shared)(Q:Value->Shared->Prop)(E:Value->Shared->Prop),tn i s.heap->Q (.ref it) s->wpAny (model P w) A (pyIter (.ref it)) Q E s
abbrev TI:=St->Hp->(It->Hp->Prop)->Prop
def Tp (X:Cx)(ah:AO)(σ:St)(tg:Expr)(R:It->Hp->Prop)(G:Value)(s2:Shared):Prop :=
 ∃(it:Addr)(fp:List Addr)(tn:Nat->Heap->Prop)(J:It)(H':Hp),G=.ref it/\Inv X ah σ H' s2/\Turn X.prog X.w X.K tg J fp it tn/\tn 0 s2.heap/\(∀b∈fp,ma X ah H' b)/\R J H'
def PI (X:Cx)(tg G:Expr)(M:TI):Prop :=
 ∀(ah:AO)(s:Shared)(σ:St)(H:Hp)(R:It->Hp->Prop),Inv X ah σ H s->M σ H R ->
  wq X (eval G X.env) (λv s1=>wq X (pyIter v) (Tp X ah σ tg R) X.xe s1) X.xe s
def qA (O:s.heap.get? it=some o)(hc:o.cls=.type n)(hd:o.data=.fields vs)
    (hn:["enumerate","zip","dict_itemiterator","dict_reverseitemiterator","odict_iterator","itertools.zip_longest","itertools.pairwise"].contains n=false) (G:Q () s):wpAny M A (letOwnedTupleGo tg (.ref it) u) Q E s:=by
  unfold letOwnedTupleGo;cases tg<;>first
    |exact wY G
    | (cases u<;>first
        |exact wY G
        | (refine wX (wpAny_load O ?_)
           rw[hc,hd]
           show wpAny M A (if(["enumerate","zip","dict_itemiterator","dict_reverseitemiterator","odict_iterator","itertools.zip_longest","itertools.pairwise"].contains n && vs[0]? == some (rawInt _))=true then _ else _) Q E s
           rw[if_neg (by intro h;rw[hn,Bool.false_and]at h;cases h)]
           exact wY G))
noncomputable def Tq (K:Frag)(a:Addr):It :=
 ⟨λi H=>∃xs x,gT K H a xs/\xs[i]? = some x,λi H x H'=>H'=H/\∀xs,gT K H a xs->xs[i]? = some x,λi H=>∃xs,gT K H a xs/\xs.length<=i⟩
noncomputable def Tr (K:Frag)(a:Addr):It :=
 ⟨λi H=>∃xs x,js K H a xs/\xs[i]? = some x,λi H x H'=>H'=H/\∀xs,js K H a xs->xs[i]? = some x,λi H=>∃xs,js K H a xs/\xs.length<=i⟩
noncomputable def Qz (lo:Int)(n:Nat):It:=⟨λi _=>i<n,λi H x H'=>H'=H/\x=.int (lo+i),λi _=>n<=i⟩
def Du {P:Program}{w:World}{K:Frag}{tg:Expr}(a it:Addr):Turn P w K tg (Tq K a) [it] it (λi h=>h.IsListIter it a i) where
 mem:=by simp
 obj:=λi h st b hb=>by
  have e:b=it:=by simpa using hb
  subst e;obtain⟨o,e,c,d⟩:=st;exact⟨o,e,λv z=>by rw[d]at z;cases z⟩
 keep:=λi h h' st k=>st.at λo e=>k it (by simp) o e
 item:=by
  intro X M hw O hc i ah s σ H E I hf st T;subst M hw O;obtain⟨xs,x,hq,hx⟩:=T;obtain⟨its,U,p,hz⟩:=I.list hq;obtain⟨u,hu,ru⟩:=U.get hx;obtain⟨f0,f1,f2,f3,f4,f5⟩:=hf it (by simp);refine wpAny_pyNext_list_item st p.isList (x:=u) (by simpa using hu) λh' G sb=>?_;have I1:Inv X ah σ H { s with heap:=h' }:=I.turned (t':=s.toks) (λb o hb e=>(sb.2 b hb).trans e) f0 f1 f3 f4 f5;obtain⟨o,e,c,d⟩:=id G;exact⟨u,rfl,qA (s:={ s with heap:=h' }) e c d (by decide) ⟨x,H,I1,ru,⟨rfl,λys hy=>by rw[I.list_inj hy hq];exact hx⟩,G,λb hb=>(hf b hb).1⟩⟩
 done:=by
  intro X M hw O hc i ah s σ H E I hf st T;subst M hw O;obtain⟨xs,hq,hx⟩:=T;obtain⟨its,U,p,hz⟩:=I.list hq;obtain⟨f0,f1,f2,f3,f4,f5⟩:=hf it (by simp);have hl:=U.length;exact wpAny_pyNext_list_end (I.ok.hd hc) st p.isList (by simp;omega) λh' eb=>⟨rfl,I.turned (t':=s.toks) (λb o hb e=>eb b o hb e) f0 f1 f3 f4 f5⟩
 self:=λ_ _ _ _ _ st h=>wpAny_pyIter_listiter st h
def A0 {P:Program}{w:World}{K:Frag}{tg:Expr}(a it:Addr):Turn P w K tg (Tr K a) [it] it (λi h=>h.IsTupleIter it a i) where
 mem:=by simp
 obj:=λi h st b hb=>by
  have e:b=it:=by simpa using hb
  subst e;obtain⟨o,e,c,d⟩:=st;exact⟨o,e,λv z=>by rw[d]at z;cases z⟩
 keep:=λi h h' st k=>st.at λo e=>k it (by simp) o e
 item:=by
  intro X M hw O hc i ah s σ H E I hf st T;subst M hw O;obtain⟨xs,x,hq,hx⟩:=T;obtain⟨its,U,p,hz⟩:=I.tuple hq;obtain⟨u,hu,ru⟩:=U.get hx;obtain⟨f0,f1,f2,f3,f4,f5⟩:=hf it (by simp);refine wpAny_pyNext_tuple_item st (show s.heap.IsTuple a its.toArray from p) (x:=u) (by simpa using hu) λh' G sb=>?_;have I1:Inv X ah σ H { s with heap:=h' }:=I.turned (t':=s.toks) (λb o hb e=>(sb.2 b hb).trans e) f0 f1 f3 f4 f5;obtain⟨o,e,c,d⟩:=id G;exact⟨u,rfl,qA (s:={ s with heap:=h' }) e c d (by decide) ⟨x,H,I1,ru,⟨rfl,λys hy=>by rw[I.tuple_inj hy hq];exact hx⟩,G,λb hb=>(hf b hb).1⟩⟩
 done:=by
  intro X M hw O hc i ah s σ H E I hf st T;subst M hw O;obtain⟨xs,hq,hx⟩:=T;obtain⟨its,U,p,hz⟩:=I.tuple hq;obtain⟨f0,f1,f2,f3,f4,f5⟩:=hf it (by simp);have hl:=U.length;exact wpAny_pyNext_tuple_end (I.ok.hd hc) st (show s.heap.IsTuple a its.toArray from p) (by simp;omega) λh' eb=>⟨rfl,I.turned (t':=s.toks) (λb o hb e=>eb b o hb e) f0 f1 f3 f4 f5⟩
 self:=λ_ _ _ _ _ st h=>wpAny_pyIter_tupleiter st h
def A1 {P:Program}{w:World}{K:Frag}{tg:Expr}(it:Addr)(lo:Int)(n:Nat):Turn P w K tg (Qz lo n) [it] it (λi h=>IsRangeIter h it (lo+(i:Nat)*1) ((n:Int) - (i:Nat)) 1) where
 mem:=by simp
 obj:=λi h st b hb=>by
  have e:b=it:=by simpa using hb
  subst e;exact⟨_,st,λv z=>by
   have U:Data.fields _=Data.cell v:=z;cases U⟩
 keep:=λi h h' st k=>k it (by simp) _ st
 item:=by
  intro X M hw O hc i ah s σ H E I hf st T;subst M hw O;obtain⟨f0,f1,f2,f3,f4,f5⟩:=hf it (by simp);have W:=Walks.range (prog:=X.prog) (w:=X.w) (I.ok.hd hc) it lo 1 n;refine W.item i s _ _ T st λv h' tk hv G kk=>?_;obtain⟨t,rfl⟩:=hv;have I1:Inv X ah σ H { s with heap:=h',toks:=tk }:=I.turned (λb o hb e=>kk b o (by simpa using hb) e) f0 f1 f3 f4 f5;refine⟨_,rfl,qA (s:={ s with heap:=h',toks:=tk }) (n:="range_iterator") G rfl rfl (by decide) ⟨.int (lo+i),H,I1,⟨t,?_⟩,⟨rfl,rfl⟩,G,λb hb=>(hf b hb).1⟩⟩;rw[Int.mul_one]
 done:=by
  intro X M hw O hc i ah s σ H E I hf st T;subst M hw O;obtain⟨f0,f1,f2,f3,f4,f5⟩:=hf it (by simp);exact wpAny_pyNext_range_end (I.ok.hd hc) st (by have:n<=i:=T;omega) λh' eb=>⟨rfl,I.turned (t':=s.toks) (λb o hb e=>eb b o hb e) f0 f1 f3 f4 f5⟩
 self:=λ_ _ _ _ _ st h=>wpAny_pyIter_rangeiter st h
section
variable {X:Cx}{tg:Expr}
def KH (K:Frag)(tl:TE):TI:=λσ H R=>tl σ H λx G=>∃a,x=.ref a/\(∃xs,gT K G a xs)/\R (Tq K a) G
def Rg (K:Frag)(tl:TE):TI:=λσ H R=>tl σ H λx G=>∃a,x=.ref a/\(∃xs,js K G a xs)/\R (Tr K a) G
def BE {l:Expr}{tl:TE}(hl:PE X l tl):PI X tg l (KH X.K tl):=by
 intro ah s σ H R I h;refine c7 (hl ah s σ H _ I h) λv s1 ⟨x,M,G,O,T⟩=>?_;obtain⟨a,e,⟨xs,hq⟩,q⟩:=T;subst e;cases O
 obtain⟨its,U,p,hz⟩:=G.list hq;refine wpAny_pyIter_list p.isList ?_;refine⟨s1.heap.objs.size,[s1.heap.objs.size],_,_,M,rfl,G.kept (t':=s1.toks) λb o e=>vZ _ e,Du a _,⟨_,vY _ rfl,rfl,rfl⟩,λb hb=>?_,q⟩;have e:b=s1.heap.objs.size:=by simpa using hb
 subst e;exact G.fpOk (vT _) (G.hok.fresh (vT _))
def LO {l:Expr}{tl:TE}(hl:PE X l tl):PI X tg l (Rg X.K tl):=by
 intro ah s σ H R I h;refine c7 (hl ah s σ H _ I h) λv s1 ⟨x,M,G,O,T⟩=>?_;obtain⟨a,e,⟨xs,hq⟩,q⟩:=T;subst e;cases O
 obtain⟨its,U,p,hz⟩:=G.tuple hq;refine wpAny_pyIter_tuple (show s1.heap.IsTuple a its.toArray from p) ?_;refine⟨s1.heap.objs.size,[s1.heap.objs.size],_,_,M,rfl,G.kept (t':=s1.toks) λb o e=>vZ _ e,A0 a _,⟨_,vY _ rfl,rfl,rfl⟩,λb hb=>?_,q⟩;have e:b=s1.heap.objs.size:=by simpa using hb
 subst e;exact G.fpOk (vT _) (G.hok.fresh (vT _))
def EM {ah:AO}{σ:St}{H:Hp}{s:Shared}{R:It->Hp->Prop}{E:QV}{lo hi:Int}{t u v:Tok}{tk:Nat}(I:Inv X ah σ H s)(h1 : -(2 ^ 62)<=lo)(h2:lo<2 ^ 62)(h3 : -(2 ^ 62)<=hi)(h4:hi<2 ^ 62)
  (q:R (Qz lo (hi - lo).toNat) H):wq X (pyIter (.ref s.heap.objs.size)) (Tp X ah σ tg R) E { s with heap:=s.heap.push { cls:=.type "range",data:=.fields #[.int lo t,.int hi u,.int 1 v] },toks:=tk }:=by
 refine wpAny_pyIter_range (IsRange.new ..) (small_one h1 h2 h3 h4) ?_;have G:Inv X ah σ H { s with heap:=s.heap.push { cls:=.type "range",data:=.fields #[.int lo t,.int hi u,.int 1 v] },toks:=tk }:=I.kept λb o e=>vZ _ e;refine⟨(s.heap.push { cls:=.type "range",data:=.fields #[.int lo t,.int hi u,.int 1 v] }).objs.size,[(s.heap.push { cls:=.type "range",data:=.fields #[.int lo t,.int hi u,.int 1 v] }).objs.size],_,_,H,rfl,
  G.kept (t':=tk) λb o e=>vZ _ e,A1 _ lo (hi - lo).toNat,?_,λb hb=>?_,q⟩
 ·have M:lo+((0:Nat):Int)*1=lo:=by simp
  have e2:(((hi - lo).toNat:Nat):Int) - ((0:Nat):Int)=Builtin.Range.rangeSize lo hi 1:=by rw[rangeSize_one];split<;>omega
  show IsRangeIter _ _ (lo+((0:Nat):Int)*1) ((((hi - lo).toNat:Nat):Int) - ((0:Nat):Int)) 1;rw[M,e2];exact vY _ rfl
 ·have e:b=(s.heap.push { cls:=.type "range",data:=.fields #[.int lo t,.int hi u,.int 1 v] }).objs.size:=by simpa using hb
  subst e;exact G.fpOk (vT _) (G.hok.fresh (vT _))
def Ox (ta:TA):TI:=λσ H R=>ta σ H λvs G=>∃j:Int,vs=[.int j]/\-(2 ^ 62)<=j/\j<2 ^ 62/\R (Qz 0 j.toNat) G
def Dv {a:Expr}{ta:TA}{p G:Pos}(O:Gl X "range")(hm:X.mg "range" = none)(ha:PA X [a] ta)(hs:starEach [a] X.env=[(false,eval a X.env)]:=by rfl):PI X tg (.Call (.Name "range" p) [a] [] G) (Ox ta):=by
 intro ah s σ H R I h;refine Call_ (i6 I O hm boot_range (PyProof.Rows.callWith_type1 (c7 (ha G ah s σ H _ I h) λus s1 ⟨vs,H1,T,U,M⟩=>?_) hs rfl));obtain⟨j,e,M,q2,q⟩:=M;subst e;cases U with
 |cons r rr=>
  cases rr
  obtain⟨t,rfl⟩:=r;exact call_range_1 (EM T (by omega) (by omega) M q2 (by simpa using q))
def Ip (T:TI)(g:TG)(tb:TS):TS:=λD σ H=>T σ H λJ U=>∃W:Nat->Nat->St->Hp->Prop,(∃m,W 0 m σ U)/\∀i m σ H,W i m σ H ->
 (J.stop i H/\D.nx σ H)∨(J.go i H/\∃N:St->Hp->Prop,(∀G H',N G H'->∃O,O<m/\W (i+1) O G H')/\∀x H',J.yld i H x H'->g x σ H' λM H2=>tb { D with nx:=N,ct:=N,bk:=D.nx } M H2)
def oq (fp:List Addr)(h:Heap):AO:=fp.filterMap λb=>(h.get? b).map λo=>(b,o)
def jF {fp:List Addr}{h:Heap}{b:Addr}{o:Obj}(hb:b∈fp)(e:h.get? b=some o):(b,o)∈oq fp h:=mem_filterMap.mpr ⟨b,hb,by rw[e];rfl⟩
def Dx (hp:p∈oq fp h):p.1∈fp/\h.get? p.1=some p.2:=by
 obtain⟨b,hb,e⟩:=mem_filterMap.mp hp;cases q:h.get? b with
 |none=>rw[q]at e;cases e
 |some o=>
  rw[q]at e;have G:(b,o)=p:=vK e;subst G;exact⟨hb,q⟩
def Inv.pinned (I:Inv X ah σ H s)(hf:∀b∈fp,ma X ah H b)(M:∀b∈fp,∃o,s.heap.get? b=some o/\∀v,o.data≠.cell v):Inv X (ah++oq fp s.heap) σ H s :=
 I.pins_of λp hp=>(mem_append.mp hp).elim (λz=>I.pin p (mY _ z)) λz=>by
  obtain⟨hb,e⟩:=Dx z;obtain⟨f0,f1,f2,_⟩:=hf p.1 hb;obtain⟨o,G,d⟩:=M p.1 hb;rw[e]at G;cases G;exact⟨e,f0,f1,f2,d⟩
def Inv.unpinned (I:Inv X (ah++pl) σ H s):Inv X ah σ H s:=I.pins_of λp hp=>I.pin p (mY _ (mem_append_left _ hp))
def A2 {M:Expr}{body:List Stmt}{wi:TI}{g:TG}{tb:TS}{pos:Pos}(hp:PassesOwn (model X.prog X.w) X.A X.env X.xe)(hc:X.calm=true)(hi:PI X tg M wi)(hg:PG X tg g)(hb:tU X body tb)
  (hs:∀x,foldedSetIterable M X.env x=pure x:=by intro _;rfl):PS X (.For tg M body [] pos) (Ip wi g tb):=by
 intro ah s σ H D I h;refine wpAny_For (c7 (hi ah s σ H _ I h) λv s1 h1=>c7 h1 λTY s2 h2=>?_) hs;obtain⟨it,fp,tn,J,H2,e,I2,T,K2,f2,W,⟨m0,w0⟩,Sg⟩:=h2;subst e
 -- what stays true of the iterator's objects through the loop
 have O:∀ {H':Hp},(∀b∈fp,H' b=none)->∀b∈fp,ma X ah H' b:=λhn b hb=>⟨hn b hb,(f2 b hb).2⟩;refine codeAny_forLoop_any (λn s'=>∃i U H',Inv X ah U H' s'/\tn i s'.heap/\(∀b∈fp,H' b=none)/\W i n U H') ?_ m0 ⟨0,σ,H2,I2,K2,λb hb=>(f2 b hb).1,w0⟩;rintro n s3 ⟨i,σ3,H3,I3,PL,TZ,w3⟩;rcases Sg i n σ3 H3 w3 with⟨stop,qn⟩|⟨go,N,hN,step⟩
 ·refine wpAny_passesOwn hp (c7 (T.done X rfl rfl rfl hc i ah s3 σ3 H3 X.xe I3 (O TZ) PL stop) λr s4 ⟨hr,I4⟩=>?_);subst hr;exact wpAny_execs_nil ⟨σ3,H3,I4,qn⟩
 ·refine wpAny_passesOwn hp (c7 (T.item X rfl rfl rfl hc i ah s3 σ3 H3 X.xe I3 (O TZ) PL go) λr s4 ⟨u,hr,h4⟩=>?_);subst hr;refine wpAny_passesOwn hp (c7 h4 λ_ s5 ⟨x,H5,I5,r5,y5,Sh,Si⟩=>?_);have Wc:=I5.pinned (O Si) (T.obj _ _ Sh);refine wpAny_passesOwn hp (c7 (hg _ s5 σ3 H5 x u _ Wc r5 (step x H5 y5)) λ_ s6 ⟨σ6,H6,I6,q6⟩=>?_);refine wpAny_passesOwn hp (c7 (hb _ s6 σ6 H6 _ I6 q6) λf s7 q7=>?_);have again:∀ {G:St}{H7:Hp},Inv X (ah++oq fp s5.heap) G H7 s7->N G H7->∃m,m<n/\∃i U H',Inv X ah U H' s7/\tn i s7.heap/\(∀b∈fp,H' b=none)/\W i m U H':=λ{G H7} I7 n7=>by
   obtain⟨m',hm,w7⟩:=hN G H7 n7;refine⟨m',hm,i+1,G,H7,I7.unpinned,T.keep _ _ _ Sh λb hb o e=>(I7.pin (b,o) (mY _ (mY _ (jF hb e)))).1,λb hb=>?_,w7⟩;obtain⟨o,e,d⟩:=T.obj _ _ Sh b hb;exact(I7.pin (b,o) (mY _ (mY _ (jF hb e)))).2.1
  cases f with
  |next=>obtain⟨G,H7,I7,n7⟩:=q7;exact again I7 n7
  |cont=>obtain⟨G,H7,I7,n7⟩:=q7;exact again I7 n7
  |brk=>obtain⟨G,H7,I7,q7⟩:=q7;exact⟨G,H7,I7.unpinned,q7⟩
  |ret v=>obtain⟨x7,G,H7,I7,r7,q7⟩:=q7;exact⟨x7,G,H7,I7.unpinned,r7,q7⟩
end
abbrev R2:=V->V->Hp->VK->Prop
def dL (X:Cx)(f:Value->Value->Sem Value)(r:R2):Prop :=
 ∀(ah:AO)(s:Shared)(σ:St)(H:Hp)(x y:V)(v u:Value)(Q:VK),Inv X ah σ H s->be x v->be y u->r x y H Q ->
  wq X (f v u) (EP X ah σ Q) X.xe s
def Oy (X:Cx)(f:Value->Sem Value)(r:V->Hp->VK->Prop):Prop :=
 ∀(ah:AO)(s:Shared)(σ:St)(H:Hp)(x:V)(v:Value)(Q:VK),Inv X ah σ H s->be x v->r x H Q ->
  wq X (f v) (EP X ah σ Q) X.xe s
def c8 (X:Cx)(f:Value)(r:List V->Hp->VK->Prop):Prop :=
 ∀(ah:AO)(s:Shared)(σ:St)(H:Hp)(xs:List V)(us:LU)(Q:VK),Inv X ah σ H s->b7 xs us->r xs H Q ->
  wq X (call f us) (EP X ah σ Q) X.xe s
def Q0 (r:R2)(ta tb:TE):TE:=λσ H Q=>ta σ H λx G=>tb σ G λy H2=>r x y H2 Q
def UZ (r:V->Hp->VK->Prop)(ta:TE):TE:=λσ H Q=>ta σ H λx G=>r x G Q
def rI (C:Int->Int->Prop)(g:Int->Int->V):R2:=λx y H Q=>∃i j,x=.int i/\y=.int j/\C i j/\Q (g i j) H
def HY (g:Int->Int->V):R2:=λx y H Q=>∃i j,x=.int i/\y=.int j/\Q (g i j) H
def rU (g:Int->V):V->Hp->VK->Prop:=λx H Q=>∃i,x=.int i/\Q (g i) H
section
variable {X:Cx}{a b c:Expr}{ta tb tc:TE}{pos:Pos}
def LP (ha:PE X a ta)(hb:PE X b tb){ah:AO}{s:Shared}{σ:St}{H:Hp}{R:V->V->Hp->Prop}(I:Inv X ah σ H s)
  (h:ta σ H λx O=>tb σ O λy H2=>R x y H2) {Q:QV}{f:Value->Value->Sem Value}
  (hf:∀v u s2 x y H2,Inv X ah σ H2 s2->be x v->be y u->R x y H2->wq X (f v u) Q X.xe s2):
  wq X (eval a X.env) (λv G=>wq X (eval b X.env) (λu M=>wq X (f v u) Q X.xe M) X.xe G) X.xe s:=by
 refine c7 (ha ah s σ H _ I h) λv s1 ⟨x,O,T,U,q1⟩=>?_;refine c7 (hb ah s1 σ O _ T q1) λu s2 ⟨y,H2,I2,r2,q2⟩=>?_;exact hf v u s2 x y H2 I2 U r2 q2
def Oz {op:Operator}{r:R2}(G:dL X (binaryOp op) r)(ha:PE X a ta)(hb:PE X b tb):PE X (.BinOp a op b pos) (Q0 r ta tb):=by
 intro ah s σ H Q I h;exact wpAny_BinOp (LP ha hb I h λv u s2 x y H2 M O T q=>G ah s2 σ H2 x y v u Q M O T q)
def O0 {op:UnaryOp}{r:V->Hp->VK->Prop}(G:Oy X (unaryOp op) r)(ha:PE X a ta):PE X (.UnaryOp op a pos) (UZ r ta):=by
 intro ah s σ H Q I h;exact UnaryOp_ (c7 (ha ah s σ H _ I h) λv s1 ⟨x,M,O,T,U⟩=>G ah s1 σ M x v Q O T U)
def Rh {f:Value->Value->Sem Value}{C:Int->Int->Prop}{g:Int->Int->Int}
  (rule:∀(i j:Int)(t u:Tok)(s:Shared)(Q:QV)(E:QV),C i j->Q (.int (g i j) s.toks) { s with toks:=s.toks+1 }->wq X (f (.int i t) (.int j u)) Q E s):
  dL X f (rI C λi j=>.int (g i j)):=by
 intro ah s σ H x y v u Q I G M h;obtain⟨i,j,rfl,rfl,hc,q⟩:=h;obtain⟨t,rfl⟩:=G;obtain⟨t',rfl⟩:=M;exact rule i j t t' s _ _ hc ⟨.int (g i j),H,I.tok _,⟨_,rfl⟩,q⟩
def LQ {f:Value->Value->Sem Value}{g:Int->Int->Int}
  (rule:∀(i j:Int)(t u:Tok)(s:Shared)(Q:QV)(E:QV),Q (.int (g i j) s.toks) { s with toks:=s.toks+1 }->wq X (f (.int i t) (.int j u)) Q E s):
  dL X f (HY λi j=>.int (g i j)):=by
 intro ah s σ H x y v u Q I G M h;obtain⟨i,j,rfl,rfl,q⟩:=h;obtain⟨t,rfl⟩:=G;obtain⟨t',rfl⟩:=M;exact rule i j t t' s _ _ ⟨.int (g i j),H,I.tok _,⟨_,rfl⟩,q⟩
def Iq {f:Value->Value->Sem Value}{g:Int->Int->Bool}
  (rule:∀(i j:Int)(t u:Tok)(s:Shared)(Q:QV)(E:QV),Q (.bool (g i j)) s->wq X (f (.int i t) (.int j u)) Q E s):
  dL X f (HY λi j=>.bl (g i j)):=by
 intro ah s σ H x y v u Q I G M h;obtain⟨i,j,rfl,rfl,q⟩:=h;obtain⟨t,rfl⟩:=G;obtain⟨t',rfl⟩:=M;exact rule i j t t' s _ _ ⟨.bl (g i j),H,I,rfl,q⟩
def O1 (i j:Int):Prop:=0<j/\j<1073741824
def Ir (i j:Int):Prop:=(-(2 ^ 64)<i/\i<2 ^ 64)∨(-(2 ^ 64)<j/\j<2 ^ 64)
def Ir.ok (h:Ir i j):IntMulOk i j:=by
 rcases h with⟨h1,h2⟩|⟨h1,h2⟩
 ·exact .of_left (intBits_le_64 h1 h2)
 ·exact .of_right (intBits_le_64 h1 h2)
def LR:dL X (binaryOp .Add) (HY λi j=>.int (i+j)):=LQ λ_ _ _ _ _ _ _ q=>add_int q
def LW:dL X (binaryOp .Sub) (HY λi j=>.int (i - j)):=LQ λ_ _ _ _ _ _ _ q=>sub_int q
def LX:dL X (binaryOp .Mult) (rI Ir λi j=>.int (i*j)):=Rh λ_ _ _ _ _ _ _ hc q=>mul_int q hc.ok
def Iu:dL X (binaryOp .FloorDiv) (rI O1 λi j=>.int (i / j)):=Rh λi j _ _ _ _ _ hc q=>by
 have h1:(0:Int)<j:=hc.1;have h2:j<1073741824:=hc.2;exact floordiv_int (by omega) (by rw[Int.fdiv_eq_ediv_of_nonneg i (by omega)];exact q) (.inl (PyProof.noPylong_small (by omega)))
def LY:dL X (binaryOp .Mod) (rI (λ_ j=>0<j) λi j=>.int (i % j)):=Rh λi j _ _ _ _ _ hc q=>by
 have h1:(0:Int)<j:=hc;exact mod_int' (by omega) (by rw[Int.fmod_eq_emod_of_nonneg i (by omega)];exact q)
def LZ:dL X (binaryOp .BitAnd) (HY λi j=>.int (Builtin.bitAnd i j)):=LQ λ_ _ _ _ _ _ _ q=>and_int q
def Va {f:Value->Sem Value}{g:Int->Int}
  (rule:∀(i:Int)(t:Tok)(s:Shared)(Q:QV)(E:QV),Q (.int (g i) s.toks) { s with toks:=s.toks+1 }->wq X (f (.int i t)) Q E s):
  Oy X f (rU λi=>.int (g i)):=by
 intro ah s σ H x v Q I G h;obtain⟨i,rfl,q⟩:=h;obtain⟨t,rfl⟩:=G;exact rule i t s _ _ ⟨.int (g i),H,I.tok _,⟨_,rfl⟩,q⟩
def Ma:Oy X (unaryOp .USub) (rU λi=>.int (-i)):=Va λ_ _ _ _ _ q=>neg_int q
def Dy:dL X (binaryOp .Add) (λx y H Q=>∃i k,x=.int i/\y=.bl k/\Q (.int (i+b2i k)) H):=by
 intro ah s σ H x y v u Q I G M h;obtain⟨i,k,rfl,rfl,q⟩:=h;obtain⟨t,rfl⟩:=G;cases M
 exact add_int_bool ⟨.int (i+b2i k),H,I.tok _,⟨_,rfl⟩,q⟩
end
section
variable {X:Cx}{a b c:Expr}{ta tb tc:TE}{pos:Pos}
def O2:dL X (compareOp .Lt) (HY λi j=>.bl (decide (i<j))):=Iq λ_ _ _ _ _ _ _ q=>lt_int q
def O3:dL X (compareOp .LtE) (HY λi j=>.bl (decide (i<=j))):=Iq λ_ _ _ _ _ _ _ q=>le_int q
def O4:dL X (compareOp .Gt) (HY λi j=>.bl (decide (j<i))):=Iq λ_ _ _ _ _ _ _ q=>gt_int q
def O5:dL X (compareOp .GtE) (HY λi j=>.bl (decide (j<=i))):=Iq λ_ _ _ _ _ _ _ q=>ge_int q
def dL.or (h:dL X f r)(h':dL X f r'):dL X f (λx y H Q=>r x y H Q∨r' x y H Q):=by
 intro ah s σ H x y v u Q I G M q;rcases q with q|q
 ·exact h ah s σ H x y v u Q I G M q
 ·exact h' ah s σ H x y v u Q I G M q
def Iv (G:dL X (compareOp op) r)(ha:PE X a ta)(hb:PE X b tb)(hm:behindInMarks op b=false):PE X (.Compare a [op] [b] pos) (Q0 r ta tb):=by
 intro ah s σ H Q I h;exact wpAny_Compare1 (LP ha hb I h λv u s2 x y H2 M O T q=>G ah s2 σ H2 x y v u Q M O T q) hm
def KI (t:TE):TT:=λσ H Q=>t σ H λx H'=>∃k,x=.bl k/\Q k H'
def BF {op:CmpOp}{r:R2}(G:dL X (compareOp op) r)(ha:PE X a ta)(hb:PE X b tb)(hm:behindInMarks op b=false):PT X (.Compare a [op] [b] pos) (KI (Q0 r ta tb)):=by
 intro ah s σ H Q I h;refine wpAny_isTrue_Compare1 (c7 (ha ah s σ H _ I h) λv s1 ⟨x,M,O,T,U⟩=>c7 (hb ah s1 σ M _ O U) λu s2 ⟨y,H2,I2,r2,q2⟩=>
  c7 (G ah s2 σ H2 x y v u _ I2 T r2 q2) λc s3 ⟨z,H3,I3,r3,k,e,q3⟩=>?_) hm
 subst e;cases r3
 exact wpAny_truthy_bool ⟨H3,I3,q3⟩
def A3 (r M:R2)(ta tb tc:TE):TE:=λσ H Q=>ta σ H λx O=>tb σ O λy H2=>r x y H2 λz G=>∃k,z=.bl k /\
 (if k=true then tc σ G λT U=>M y T U Q else Q (.bl false) G)
def EN {op G:CmpOp}{r O:R2}(ho:dL X (compareOp op) r)(M:dL X (compareOp G) O)(ha:PE X a ta)(hb:PE X b tb)(hc:PE X c tc)
  (hm:lastMarks [op,G] [b,c]=false:=by with_unfolding_all rfl):PE X (.Compare a [op,G] [b,c] pos) (A3 r O ta tb tc):=by
 intro ah s σ H Q I h;refine Compare_chain (c7 (ha ah s σ H _ I h) λv s1 ⟨x,H1,I1,r1,q1⟩=>chain_link (c7 (hb ah s1 σ H1 _ I1 q1) λu s2 ⟨y,H2,I2,T,q2⟩=>
  c7 (ho ah s2 σ H2 x y v u _ I2 r1 T q2) λd s3 ⟨z,U,I3,r3,k,e,q3⟩=>?_)) hm
 subst e;cases r3
 refine wpAny_truthy_bool ?_;cases k with
 |false=>exact ite_ff ⟨.bl false,U,I3,rfl,q3⟩
 |true=>exact ite_tt (chain_last (c7 (hc ah s3 σ U _ I3 q3) λw' s4 ⟨z',H4,I4,r4,q4⟩=>M ah s4 σ H4 y z' u w' Q I4 T r4 q4))
def EO {op G:CmpOp}{r O:R2}(ho:dL X (compareOp op) r)(M:dL X (compareOp G) O)(ha:PE X a ta)(hb:PE X b tb)(hc:PE X c tc)
  (hm:lastMarks [op,G] [b,c]=false:=by with_unfolding_all rfl):PT X (.Compare a [op,G] [b,c] pos) (KI (A3 r O ta tb tc)):=by
 intro ah s σ H Q I h;refine isTrue_chain (c7 (ha ah s σ H _ I h) λv s1 ⟨x,H1,I1,r1,q1⟩=>test_link (c7 (hb ah s1 σ H1 _ I1 q1) λu s2 ⟨y,H2,I2,T,q2⟩=>
  c7 (ho ah s2 σ H2 x y v u _ I2 r1 T q2) λd s3 ⟨z,U,I3,r3,k,e,q3⟩=>?_)) hm
 subst e;cases r3
 refine wpAny_truthy_bool ?_;cases k with
 |false=>
  obtain⟨k',e',q'⟩:=q3;cases e'
  exact ite_ff ⟨U,I3,q'⟩
 |true=>
  refine ite_tt (test_last (c7 (hc ah s3 σ U _ I3 q3) λw' s4 ⟨z',H4,I4,r4,q4⟩=>c7 (M ah s4 σ H4 y z' u w' _ I4 T r4 q4) λd' s5 ⟨z2,H5,I5,r5,k2,e2,q5⟩=>?_));subst e2;cases r5
  exact wpAny_truthy_bool ⟨H5,I5,q5⟩
def qB:(sizeLine:Nat)<2 ^ 63:=by rw[sizeLine_eq];decide
def A4:dL X (binaryOp .Add) (λx y H Q=>∃i j,x=.str i/\y=.str j/\i.length+j.length<=sizeLine/\Q (.str (i++j)) H):=by
 intro ah s σ H x y v u Q I G M h;obtain⟨i,j,rfl,rfl,hz,q⟩:=h;obtain⟨t,rfl⟩:=G;obtain⟨t',rfl⟩:=M;exact add_str (λt' tk=>⟨.str (i++j),H,I.tok _,⟨_,rfl⟩,q⟩) hz
def jX (r:b7 [x] us):∃u,us=[u]/\be x u:=by
 cases r with
 |cons G M=>cases M;exact⟨_,rfl,G⟩
def EQ (r:b7 [x,y] us):∃u G,us=[u,G]/\be x u/\be y G:=by
 cases r with
 |cons M O=>
  cases O with
  |cons T U=>cases U;exact⟨_,_,rfl,M,T⟩
def Dz (hc:X.calm=true):c8 X (.builtin "max") (λxs H Q=>∃i j,xs=[.int i,.int j]/\Q (.int (if j > i then j else i)) H):=by
 intro ah s σ H xs us Q I r h;obtain⟨i,j,rfl,q⟩:=h;obtain⟨u,G,rfl,⟨t,rfl⟩,⟨t',rfl⟩⟩:=EQ r;refine max_two_ints (I.ok.hd hc) λh' tk k=>⟨_,H,I.kept k,?_,q⟩;by_cases hj:j > i
 ·rw[if_pos hj,if_pos hj];exact⟨_,rfl⟩
 ·rw[if_neg hj,if_neg hj];exact⟨_,rfl⟩
end
structure K3 (h:Heap)(x dx C:Addr)(mA:Str->Option Value):Prop where
 obj:h.get? x=some (PySem.W.instObj C dx)
 ns:h.Ns1 dx mA
 ne:dx≠x
def D0 {h:Heap}{dx:Addr}{mA:SV}(n:h.Ns1 dx mA):∃od,h.get? dx=some od/\∀name,PySem.W.lookIn name od=some (mA name):=by
 obtain⟨o,es,T,M,hd,hk,_,hm⟩:=n;refine⟨o,M,λname=>?_⟩;have e:=hm name;unfold nsFind findBy at e;rw[←Array.find?_toList]at e;unfold PySem.W.lookIn;rw[hd];dsimp only;split
 ·rename_i y q;rw[q]at e;exact congrArg some e
 ·rename_i q;rw[q]at e;have a:es.toList.any (·.refKey)=false:=by
   rw[List.any_eq_false];intro y hy;obtain⟨z,t,G⟩:=hk y (Array.mem_toList_iff.mp hy);simp[DictEntry.refKey,G]
  have O:¬es.toList.any (·.refKey)=true:=by rw[a];exact uX
  rw[if_neg O];exact congrArg some e
def K3.look (I:K3 h x dx C mA):∃od,PySem.W.InstAt h x (PySem.W.instObj C dx) C (some od)/\∀name,PySem.W.lookIn name od=some (mA name) :=
 let ⟨od,G,hl⟩:=D0 I.ns
 ⟨od,⟨I.obj,rfl,rfl,G⟩,hl⟩
section
variable {prog:Program}{w:World}{A:Around}{E:QV}{s:Shared}{K:Frag}{x dx C f:Addr}{mA:SV}{name:Str}{v:Value}
end
def pW.none_of (r:pW none o):o=none:=by
 cases o with
 |none=>rfl
 |some u=>exact(show False from r).elim
section
variable {P:Program}{w:World}{H H':Hp}{h h':Heap}{a C dx:Addr}{fs Wa:List (Str×V)}
def BG (hok:lJ P w H h)(e:H a=some (.ins C dx fs)):∃mA,K3 h a dx C mA/\(∀f,pW (fs.lookup f) (mA f))/\PySem.Within mA (fs.map (·.1))/\fs.length<=1000/\H dx=some (.own a):=by
 obtain⟨d,z,ne,ob,mA,n,r,q⟩:=(show bR P w H h a (.ins C dx fs)from hok a _ e);exact⟨mA,⟨ob,n,ne⟩,r,q,z,d⟩
end
structure Cls (K:Frag)(C:Addr):Prop where
 pg:PySem.W.plainGet K C Str.empty=true
 hd:PySem.W.hasDictIn K C=true
 po:PySem.W.plainOver K C=true
 sa:PySem.W.findIn K (.ref C) "__setattr__" = some (some (.builtin "object.__setattr__"))
def Cls.get {K:Frag}{C:Addr}(c:Cls K C)(f:Str):PySem.W.plainGet K C f=true:=c.pg
structure Meth (K:Frag)(C:Addr)(m:Str)(f:Addr):Prop where
 at_:PySem.W.findIn K (.ref C) m=some (some (.ref f))
 fn:PySem.W.isFn K (.ref f)=true
 kp:PySem.W.keepIn K (.ref f)=true
section
variable {X:Cx}{ah:AO}{σ:St}{H:Hp}{s:Shared}{a C dx:Addr}{fs:List (Str×V)}{f:Str}{v:V}{A:Around}{E:QV}
end
section
variable {X:Cx}{o e value:Expr}{f:Str}{pos HS Nr:Pos}{ta tv:TE}
end
section
variable {X:Cx}{ah:AO}{σ:St}{H:Hp}{s:Shared}{A:Around}{E:QV}{Q:QV}{c:Value}{b:Bool}
inductive TyOf (K:Frag)(H:Hp):V->Value->Prop where
 |non:TyOf K H .non (.type "NoneType")
 |bl (x:Bool):TyOf K H (.bl x) (.type "bool")
 |int (i:Int):TyOf K H (.int i) (.type "int")
 |str (x:Str):TyOf K H (.str x) (.type "str")
 |flt (x:UInt64):TyOf K H (.flt x) (.type "float")
 |lst {a:Addr}{xs:List V}(e:H a=some (.lst xs)):TyOf K H (.ref a) (.type "list")
 |frz {a:Addr}{o:Obj}{xs:List V}(e:H a=some (.frz o (.lst xs))):TyOf K H (.ref a) (.type "list")
 |tup {a:Addr}{xs:List V}(e:H a=some (.tup xs)):TyOf K H (.ref a) (.type "tuple")
 |dK {a:Addr}{aM:List (eK×V)}{ob:Obj}(e:H a=some (.dK aM ob)):TyOf K H (.ref a) (.type "dict")
 |dT {a:Addr}{aM:List (List eK×V)}(e:H a=some (.dT aM)):TyOf K H (.ref a) (.type "dict")
 |ins {a C dx:Addr}{fs:List (Str×V)}(e:H a=some (.ins C dx fs)) (cl:Cls K C) (ha:PySem.W.findIn K (.ref C) "__class__" = some (some (.builtin "object.__class__")))
   (hn:PySem.W.specialIn K (.builtin "object.__class__") "__get__" = some (some (.builtin "getset_descriptor.__get__"))) (Ua:PySem.W.takesIn K (.builtin "object.__class__")=some true)
   (hm:PySem.W.mroIn K C (.type "object")=some true):TyOf K H (.ref a) (.ref C)
def io (I:Inv X ah σ H s)(G:be x u)(ty:TyOf X.K H x t)(e:PySem.W.kitOne X.K t c=some b)(h:∀tk,Q (.bool b) { s with toks:=tk }):
  wpAny (model X.prog X.w) A (call (.builtin "isinstance") [u,c]) Q E s:=by
 cases ty with
 |non=>cases (show u=Value.none from G);exact kia_one PySem.W.kitx_none I.kIn True.intro e (λz=>nomatch z) h
 |bl y=>cases (show u=Value.bool y from G);exact kia_one PySem.W.kitx_bool I.kIn True.intro e (λz=>nomatch z) h
 |int i=>obtain⟨t,q⟩:=(show ∃t,u=Value.int i t from G);cases q;exact kia_one PySem.W.kitx_int I.kIn True.intro e (λz=>nomatch z) h
 |str y=>obtain⟨t,q⟩:=(show ∃t,u=Value.str y t from G);cases q;exact kia_one PySem.W.kitx_str I.kIn True.intro e (λz=>nomatch z) h
 |flt y=>obtain⟨t,q⟩:=(show ∃t,u=Value.float y t from G);cases q;exact kia_one PySem.W.kitx_float I.kIn True.intro e (λz=>nomatch z) h
 |@lst a xs M=>
  cases (show u=Value.ref a from G)
  obtain⟨_,_,n,_,h1⟩:=(show bR X.prog X.w H s.heap a (.lst xs)from I.hok a _ M);exact kia_one PySem.W.kitx_list I.kIn ⟨_,h1,rfl⟩ e (λz=>nomatch z) h
 |@frz a ob xs M=>
  cases (show u=Value.ref a from G)
  obtain⟨_,_,_,n,_,h1⟩:=(show bR X.prog X.w H s.heap a (.frz ob (.lst xs))from I.hok a _ M);exact kia_one PySem.W.kitx_list I.kIn ⟨_,h1,rfl⟩ e (λz=>nomatch z) h
 |@tup a xs M=>
  cases (show u=Value.ref a from G)
  obtain⟨_,_,_,p⟩:=(show bR X.prog X.w H s.heap a (.tup xs)from I.hok a _ M);obtain⟨o,h1,h2,_⟩:=p;exact kia_one PySem.W.kitx_tuple I.kIn ⟨o,h1,h2⟩ e (λz=>nomatch z) h
 |@dK a aM ob M=>
  cases (show u=Value.ref a from G)
  obtain⟨_,_,_,vs,_,p⟩:=(show bR X.prog X.w H s.heap a (.dK aM ob)from I.hok a _ M);obtain⟨o,es,T,h1,h2,_⟩:=p;exact kia_one PySem.W.kitx_dict I.kIn ⟨o,h1,h2.1⟩ e (λz=>nomatch z) h
 |@dT a aM M=>
  cases (show u=Value.ref a from G)
  obtain⟨_,_,xs,_,o,es,T,h1,h2,_⟩:=(show bR X.prog X.w H s.heap a (.dT aM)from I.hok a _ M);exact kia_one PySem.W.kitx_dict I.kIn ⟨o,h1,h2.1⟩ e (λz=>nomatch z) h
 |@ins a C dx fs M cl ha hn Ua hm=>
  cases (show u=Value.ref a from G)
  obtain⟨mA,O,_⟩:=BG I.hok M;obtain⟨od,J,_⟩:=O.look;exact kia_one (PySem.W.kitx_own (cl.get _) cl.hd ha hn Ua hm) I.kIn J e (λz=>nomatch z) h
end
structure eJ (k:Nat)(A:Around):Prop where
 hd:A.handled=none
 dp:A.depth+3*k+5<recursionLimit
 un:A.units+16*k+200<cLine
def eJ.mono (r:eJ k A)(h:j<=k):eJ j A:=⟨r.hd,by have:=r.dp;omega,by have:=r.un;omega⟩
def eJ.deeper (r:eJ (k+1) A)(env:Env):eJ k (A.deeper env) :=
 ⟨r.hd,by have:=r.dp;show A.depth+1+3*k+5<_;omega,by have:=r.un;show A.units+3+16*k+200<_;omega⟩
def eJ.in1 (r:eJ (k+1) A):eJ k A.in1 :=
 ⟨r.hd,by have:=r.dp;show A.depth+3*k+5<_;omega,by have:=r.un;show A.units+1+16*k+200<_;omega⟩
def eJ.depth (r:eJ k A):A.depth<recursionLimit:=by have:=r.dp;omega
def O7:TA:=λ_ H Q=>Q [] H
def KN (ta:TE)(G:TA):TA:=λσ H Q=>ta σ H λx M=>G σ M λxs H2=>Q (x::xs) H2
section
variable {X:Cx}{e:Expr}{es:QD}{te:TE}{t:TA}{pos:Pos}
def je:PA X [] O7:=λ_ _ _ _ H Q I h=>Calls.spliced_nil ⟨[],H,I,.nil,h⟩
def gF (ha:PE X e te)(G:PA X es t)(hs:starEach (e::es) X.env=(false,eval e X.env)::starEach es X.env:=by rfl):PA X (e::es) (KN te t):=by
 intro pos ah s σ H Q I h;rw[hs];show wpAny _ _ (spliced ((false,eval e X.env)::backTo pos (starEach es X.env))) _ _ s;refine Calls.spliced_cons (c7 (ha ah s σ H _ I h) λu s1 ⟨x,M,O,T,U⟩=>?_);exact c7 (G pos ah s1 σ M _ O U) λus s2 ⟨xs,H2,I2,r2,q2⟩=>⟨x::xs,H2,I2,.cons T r2,q2⟩
def O8 (t:TA):TE:=λσ H Q=>t σ H λxs G=>xs.length<=sizeLine/\∀p,G p=none->Q (.ref p) (upd G p (.tup xs))
def Rj (t:TA):TE:=λσ H Q=>t σ H λxs G=>xs.length<=sizeLine/\∀p,G p=none->Q (.ref p) (upd G p (.lst xs))
def A6 {x1}(h:PA X es t):PE X (.Tuple es x1 pos) (O8 t):=by
 intro ah s σ H Q I hq;refine wpAny_Tuple_spliced (c7 (h pos ah s σ H _ I hq) λus s1 ⟨xs,G,M,r,z,q⟩=>⟨by rw[←r.length];exact z,?_⟩);have hf:G s1.heap.objs.size=none:=M.hok.fresh (vT _);refine⟨.ref s1.heap.objs.size,upd G s1.heap.objs.size (.tup xs),M.laid (t':=s1.toks) (λb u e=>vZ _ e) (vT _) ?_,rfl,q _ hf⟩;exact⟨z,us,r,⟨_,vY _ rfl,rfl,_,rfl⟩⟩
def Mc (h:PA X es t):PE X (.List es pos) (Rj t):=by
 intro ah s σ H Q I hq;refine wpAny_List_spliced (c7 (h pos ah s σ H _ I hq) λus s1 ⟨xs,G,M,r,z,q⟩=>⟨by rw[←r.length];exact z,?_⟩);have hf:G s1.heap.objs.size=none:=M.hok.fresh (vT _);refine⟨.ref s1.heap.objs.size,upd G s1.heap.objs.size (.lst xs),M.laid (t':=s1.toks) (λb u e=>vZ _ e) (vT _) ?_,rfl,q _ hf⟩;exact⟨z,us,0,r,vY _ rfl⟩
end
abbrev Sp:=List V->Hp->VK->XK->Prop
abbrev KO:=List Env->Hp->Shared->XK->QV
structure Env0 (P:Program)(w:World)(K:Frag)(mg:Str->Option Value)(base:Heap)(A:Around)(outer:List Env)(s:Shared)(H:Hp):Prop where
 frames:A.frames=some outer
 mod:Mod K mg base
 bs:∀b o,base.get? b=some o->s.heap.get? b=some o/\H b=none
 bsz:base.objs.size<=s.heap.objs.size
 funs:s.heap.FunFrames base outer
 frf:∀b∈E8 outer,H b=none
 hok:lJ P w H s.heap
 bare:AllBare s.gens
def CE (outer:List Env)(P:Program)(w:World)(H:Hp)(s:Shared)(Q:VK)(u:Value)(s':Shared):Prop :=
 ∃v H',s'.os=s.os/\AllBare s'.gens/\Un (E8 outer) [] H H' s.heap s'.heap/\lJ P w H' s'.heap/\be v u/\Q v H'
def CR (CX:KO)(outer:List Env)(P:Program)(w:World)(H:Hp)(s:Shared)(Q:VK)(E:XK)(r:Result)(s':Shared):Prop :=
 match r with
 |.ok (.ret u)=>CE outer P w H s Q u s'
 |.ok _=>False
 |.error e=>CX outer H s E e s'
structure tR (P:Program)(w:World)(K:Frag)(mg:Str->Option Value)(base:Heap)(CX:KO)(k:Nat)(f:Addr)(fd:FuncData)(ps:List Str)(sp:Sp):Prop where
 len:∀vs H Q E,sp vs H Q E->vs.length=ps.length
 run:∀(A:Around)(outer:List Env)(s:Shared)(H:Hp)(args:Args)(us:List Value)(vs:List V)(Q:VK)(E:XK),eJ k A->Env0 P w K mg base A outer s H->BindsTo s fd args (ps.zip us)->b7 vs us->sp vs H Q E ->
  codeAny (model P w) A (.call (.ref f) args) (CR CX outer P w H s Q E) s
section
variable {X:Cx}{ah:AO}{σ:St}{H:Hp}{s s':Shared}
def Inv.env0 (I:Inv X ah σ H s):Env0 X.prog X.w X.K X.mg X.base X.A X.stack s H :=
 ⟨I.ok.frames,I.ok.mod,I.bs,vR I.ok.bsz I.sz,I.stack,I.stkFree,I.hok,I.bare⟩
def Inv.after (I:Inv X ah σ H s)(h:CE X.stack X.prog X.w H s Q u s'):EP X ah σ Q u s':=by
 obtain⟨v,H',os,bare,un,hok,r,q⟩:=h;obtain⟨hh,g,d,t,G⟩:=s';obtain rfl:G=s.os:=os;exact⟨v,H',I.call (h':=hh) (g':=g) (d':=d) (t':=t) (ch:=[]) un hok bare (λb z=>absurd z (by simp)),r,q⟩
end
def O9 (sp:Sp)(G:List V)(E:XK)(t:TA):TE:=λσ H Q=>t σ H λvs M=>sp (vs++G) M Q E
def pe (K:Frag)(fd:FuncData)(ps:LS)(ds:LU):Prop :=
 ∀(s:Shared)(us:LU),K.In s.heap->(us++ds).length=ps.length->BindsTo s fd ⟨us,[]⟩ (ps.zip (us++ds))
def pe.all {K:Frag}{fd:FuncData}{ps:LS}(h:∀us:LU,us.length=ps.length->bindArgs fd ⟨us,[]⟩=pure (ps.zip us)):pe K fd ps []:=λs us _ hl=>by
 rw[uQ]at hl ⊢;exact .of_eq (h us hl)
def A7 (CX:KO)(X:Cx)(E:XK):Prop:=∀(ah:AO)(σ:St)(H:Hp)(s:Shared)(e:Value)(s':Shared),Inv X ah σ H s->CX X.stack H s E e s'->X.xe e s'
section
variable {X:Cx}{CX:KO}{k:Nat}{f C:Addr}{fd:FuncData}{ps:LS}{sp:Sp}{Nt:List V}{ds:LU}{E:XK}{x m:Str}{p pos dM:Pos}{e o:Expr}{es:QD}{ta:TE}{t:TA}
def Md {ah:AO}{σ:St}{H:Hp}{s:Shared}{Q:VK}{us:LU}{vs:List V}(F:tR X.prog X.w X.K X.mg X.base CX k f fd ps sp)(M:eJ k X.A)(hb:pe X.K fd ps ds)(hd:b7 Nt ds)(hx:A7 CX X E)
  (I:Inv X ah σ H s) (r:b7 vs us) (h:sp (vs++Nt) H Q E):wq X (call (.ref f) us) (EP X ah σ Q) X.xe s:=by
 have G:b7 (vs++Nt) (us++ds):=r.append hd;have hl:(us++ds).length=ps.length:=by rw[←G.length];exact F.len _ _ _ _ h
 refine wpAny_call (codeAny_mono (F.run X.A X.stack s H ⟨us,[]⟩ (us++ds) (vs++Nt) Q E M I.env0 (hb s us I.kIn hl) G h) λr s' hq=>?_);cases r with
 |error e=>exact hx ah σ H s e s' I hq
 |ok fl=>
  cases fl with
  |ret u=>exact I.after hq
  |next=>exact False.elim hq
  |brk=>exact False.elim hq
  |cont=>exact False.elim hq
def BH (F:tR X.prog X.w X.K X.mg X.base CX k f fd ps sp)(T:eJ k X.A)(U:Gl X x)(hm:X.mg x=some (.ref f))(hk:PySem.W.keepIn X.K (.ref f)=true)(hb:pe X.K fd ps ds)(hd:b7 Nt ds)(hx:A7 CX X E)
  (ha:PA X (e::es) t) (G:(x == ("__debug__" : Str))=false:=by decide) (he:starEach (e::es) X.env=(false,eval e X.env)::starEach es X.env:=by rfl) (M:(backTo pos (starEach es X.env)).any (·.1)=false:=by rfl):
  PE X (.Call (.Name x p) (e::es) [] pos) (O9 sp Nt E t):=by
 intro ah s σ H Q I h;refine wpAny_Call_Name_kw (wC I U hm ?_ G);refine PySem.W.callWith_K (h₀:=X.base) I.ok.mod.kin hk (c7 (ha pos ah s σ H _ I h) λus s1 ⟨vs,H1,O,r,q⟩=>⟨O.kIn,?_⟩) he M;exact Md F T hb hd hx O r q
end
structure FnScope (N P:List Str)(sc:Scope):Prop where
 kind:sc.kind=.function
 co:sc.isCoroutine=false
 gen:sc.isGenerator=false
 nd:N.Nodup
 pre:N.take P.length=P
 par:∀x∈P,sc.names.lookup x=some .local∨sc.names.lookup x=some .cell
 nofree:∀y∈sc.names,y.2≠.free
theorem uq {kindOf:Str->Option NameKind}{x:Str}:∀ {binds:List (Str×Value)}{m:SV},(∀v,(x,v)∉binds)->bindL kindOf binds m x=m x
 |[],_,_=>rfl
 | (n,v)::r,m,h=>by
  unfold bindL;rw[uq λw hw=>h w (mZ _ hw)];split
  ·have:x≠n:=by rintro rfl;exact h v mX
   simp[this]
  ·rfl
theorem ur {kindOf:Str->Option NameKind}{x:Str}:∀ {binds:List (Str×Value)}{m:SV},(∀v,(x,v)∉binds)->bindC kindOf binds m x=m x
 |[],_,_=>rfl
 | (n,v)::r,m,h=>by
  unfold bindC;rw[ur λw hw=>h w (mZ _ hw)];split
  ·rfl
  ·have:x≠n:=by rintro rfl;exact h v mX
   simp[this]
theorem ut {kindOf:Str->Option NameKind}{x:Str}{v:Value}:∀ {P:LS}{vs:LU}{i:Nat}{m:SV},P.Nodup->P[i]? = some x->vs[i]? = some v->kindOf x=some .local ->
  bindL kindOf (P.zip vs) m x=some v
 |[],_,_,_,_,h,_,_=>by simp at h
 |_::_,[],_,_,_,_,h,_=>by simp at h
 |p::P,w::vs,0,m,nd,h1,h2,hk=>by
  simp at h1 h2;subst h1;subst h2;show bindL kindOf ((p,w)::P.zip vs) m p=_;unfold bindL;rw[uq λv hv=>(nodup_cons.mp nd).1 (of_mem_zip hv).1,if_pos hk];simp
 |p::P,w::vs,i+1,m,nd,h1,h2,hk=>by
  show bindL kindOf ((p,w)::P.zip vs) m x=_;unfold bindL;exact ut (i:=i) (nodup_cons.mp nd).2 (by simpa using h1) (by simpa using h2) hk
theorem uu {kindOf:Str->Option NameKind}{x:Str}{v:Value}:∀ {P:LS}{vs:LU}{i:Nat}{m:SV},P.Nodup->P[i]? = some x->vs[i]? = some v->kindOf x≠some .local ->
  bindC kindOf (P.zip vs) m x=some v
 |[],_,_,_,_,h,_,_=>by simp at h
 |_::_,[],_,_,_,_,h,_=>by simp at h
 |p::P,w::vs,0,m,nd,h1,h2,hk=>by
  simp at h1 h2;subst h1;subst h2;show bindC kindOf ((p,w)::P.zip vs) m p=_;unfold bindC;rw[ur λv hv=>(nodup_cons.mp nd).1 (of_mem_zip hv).1,if_neg hk];simp
 |p::P,w::vs,i+1,m,nd,h1,h2,hk=>by
  show bindC kindOf ((p,w)::P.zip vs) m x=_;unfold bindC;exact uu (i:=i) (nodup_cons.mp nd).2 (by simpa using h1) (by simpa using h2) hk
noncomputable def jY (N:LS)(vs:List V):St:=vs.map some++List.replicate (N.length - vs.length) none
noncomputable def ot (CX:KO)(P:Program)(w:World)(K:Frag)(mg:SV)(base:Heap)(N:LS)(qual:Str)(scope:Scope)(f:Addr)(cd:Value)(A:Around)(outer:List Env)(s:Shared)(H:Hp)(E:XK):Cx where
 prog:=P
 w:=w
 K:=K
 mg:=mg
 base:=base
 A:=A.deeper (envOfC qual scope s.heap.objs.size f cd)
 N:=N
 s₀:=s
 H₀:=H
 env:=envOfC qual scope s.heap.objs.size f cd
 outer:=outer
 stack:=envOfC qual scope s.heap.objs.size f cd::outer
 ex:=[]
 calm:=true
 fn:=λ_=>true
 pn:=[]
 xe:=λe s'=>wpAny (model P w) (A.deeper (envOfC qual scope s.heap.objs.size f cd)) (leaving (envOfC qual scope s.heap.objs.size f cd) e) (λ_ G=>CX outer H s E e G) (λM G=>CX outer H s E M G) s'
def yk {sc:Scope}{n:Nat}{x:Str}(h:sc.names.lookup x=some .cell):∃c,(cellsFrom n sc.names []).lookup x=some c:=by
 have q:=PySem.W.cellsFrom_some sc.names n [] (.inl h);exact uU q
def D1 {CX:KO}{P:Program}{w:World}{K:Frag}{mg:SV}{base:Heap}{N ps:LS}{qual:Str}{scope:Scope}{f:Addr}{cd:Value}{A:Around}{outer:List Env}{s s1:Shared}{H:Hp}{E:XK}{us:LU}{vs:List V}
  (S:FnScope N ps scope) (hd:A.handled=none) (G:Env0 P w K mg base A outer s H) (hl:vs.length=ps.length) (r:b7 vs us)
  (x:InCallC s s.heap.objs.size (bindL (envOfC qual scope s.heap.objs.size f cd).kindOf (ps.zip us) λ_=>none) (cellsFrom (s.heap.objs.size+1) scope.names []) (bindC (envOfC qual scope s.heap.objs.size f cd).kindOf (ps.zip us) λ_=>none) s1):
  Inv (ot CX P w K mg base N qual scope f cd A outer s H E) [] (jY N vs) H s1:=by
 have T:ps.length<=N.length:=by have:=congrArg List.length S.pre;rw[length_take]at this;omega
 obtain⟨h1,tk,rfl,hk⟩:=x.done;have M:∀b:Addr,b∉(ot CX P w K mg base N qual scope f cd A outer s H E).ex:=λb z=>absurd (show b∈([]:List Addr)from z) (by simp);refine⟨⟨G.mod,S.kind,rfl,rfl,vT _,λy z c h1 h2=>?_,λy hy=>?_,λy c _ h=>?_,λ_=>hd,Around.frames_deeper G.frames,.inr ⟨rfl,rfl⟩,λb z=>absurd z (M b),G.bs,G.bsz,λb _ _=>M b,λb z=>absurd z (M b),G.funs,G.frf⟩,
  rfl,G.bare,Un.kept hk,⟨_,x.toInCall.ns,λi y v h1 h2 h3=>?_⟩,λy c h=>⟨_,x.cell y c h⟩,G.hok.fresh (vT _),λy c h=>?_,λp hp=>absurd (show p∈([]:AO)from hp) (by simp),G.hok.kept hk,?_⟩
 ·exact name_of_addr x.apart (PySem.mem_of_lookup h1) (PySem.mem_of_lookup h2)
 ·have hy:scope.names.lookup y=some .cell∨scope.names.lookup y=some .free:=hy;rcases hy with hy|hy
  ·exact yk hy
  ·exact absurd rfl (S.nofree _ (PySem.mem_of_lookup hy))
 ·exact le_of_lt (x.above y c (PySem.mem_of_lookup h))
 ·have hi:i<vs.length:=by
   unfold jY at h2;by_cases hi:i<vs.length
   ·exact hi
   ·rw[getElem?_append_right (by simpa using hi)]at h2;rw[getElem?_replicate]at h2;split at h2<;>cases h2
  have ha:vs[i]? = some v:=by
   unfold jY at h2;rw[getElem?_append_left (by simpa using hi),vA]at h2;cases e:vs[i]? with
   |none=>rw[e]at h2;cases h2
   |some a=>rw[e]at h2;cases h2;rfl
  obtain⟨u,hu,U⟩:=r.get ha;have hp:ps[i]? = some y:=by
   rw[←S.pre,List.getElem?_take_of_lt (by omega)];exact h1
  have O:ps.Nodup:=by rw[←S.pre];exact S.nd.sublist (take_sublist _ _)
  refine⟨u,U,?_⟩;rcases S.par y (vL hp)with k|k
  ·exact .inl ⟨k,ut O hp hu k⟩
  ·obtain⟨c,e⟩:=yk (n:=s.heap.objs.size+1) k;refine .inr ⟨.inl k,c,e,?_⟩;have q:=x.cell y c e;rw[uu O hp hu (by show scope.names.lookup y≠_;rw[k];decide)]at q;exact q
 ·exact G.hok.fresh (le_of_lt (x.above y c (PySem.mem_of_lookup h)))
 ·unfold jY;show _=N.length;rw[uZ,vI,length_replicate];omega
def ES {CX:KO}{P:Program}{w:World}{K:Frag}{mg:SV}{base:Heap}{k:Nat}{f:Addr}{name qual:Str}{params:Arguments}{G:List Stmt}{scope:Scope}{dV kV doc pm cV ct oc:Value}{an od:Option Addr}
  {lY:Array (Option Value)}{N ps:LS}{sp:Sp}(lk:K.lookup f=some ⟨oc,od,.func (fnOf name qual params G scope dV kV doc pm an cV ct),lY⟩) (K4:PySem.W.codeIn K cV qual=true) (S:FnScope N ps scope)
  (len:∀vs H Q E,sp vs H Q E->vs.length=ps.length)
  (O:∀(A:Around)(outer:List Env)(s:Shared)(H:Hp)(vs:List V)(Q:VK)(E:XK),eJ k (A.deeper (envOfC qual scope s.heap.objs.size f cV))->sp vs H Q E ->
   ∃t,tU (ot CX P w K mg base N qual scope f cV A outer s H E) G t/\t { nx:=λ_ H'=>Q .non H',rt:=Q } (jY N vs) H):
  tR P w K mg base CX (k+1) f (fnOf name qual params G scope dV kV doc pm an cV ct) ps sp:=by
 refine⟨len,λA outer s H args us vs Q E hr U hb r QH=>?_⟩;have hl:=len _ _ _ _ QH;have KX:K.In s.heap:=U.mod.kin.keeps λb o e=>(U.bs b o e).1;have We:s.heap.NoLimit:=U.mod.nolimit.keeps λb o e=>(U.bs b o e).1;have T:∀y∈ps.zip us,scope.names.lookup y.1=some .local∨(scope.names.lookup y.1=some .cell/\((cellsFrom (s.heap.objs.size+1) scope.names []).lookup y.1).isSome=true):=λ⟨n,v⟩ hy=>by
  rcases S.par n (of_mem_zip hy).1 with q|q
  ·exact .inl q
  ·exact .inr ⟨q,PySem.W.cellsFrom_some _ _ _ (.inl q)⟩
 refine codeAny_call_function hr.depth (KX _ _ lk) rfl S.co S.gen rfl (PySem.W.codeRec_of KX K4) (hb _ _ _ _ ?_);refine wpAny_newFunctionEnv_cells S.kind T λenv he s1 x=>?_;subst he;refine⟨We.keeps x.toInCall.keep,codeAny_func ?_⟩;obtain⟨t,ht,hq⟩:=O A outer s H vs Q E (hr.deeper _) QH;have I:Inv (ot CX P w K mg base N qual scope f cV A outer s H E) [] (jY N vs) H s1:=D1 S hr.hd U hl r x;refine wpAny_mono (ht [] s1 (jY N vs) H _ I hq) (λfl s' hs=>?_) λe s' hs=>hs;have ju:∀ {M:St}{H':Hp}{v:V}{u:Value},Inv (ot CX P w K mg base N qual scope f cV A outer s H E) [] M H' s'->be v u->Q v H'->CE outer P w H s Q u s' :=
  λ{M H' v u} J rv q=>⟨v,H',J.os,J.bare,J.base,J.hok,rv,q⟩
 cases fl with
 |ret u=>
  obtain⟨v,M,H',J,rv,q⟩:=hs;exact ju J rv q
 |next=>
  obtain⟨M,H',J,q⟩:=hs;exact ju (v:=V.non) (u:=Value.none) J rfl q
 |brk=>
  obtain⟨_,_,_,q⟩:=hs;exact False.elim q
 |cont=>
  obtain⟨_,_,_,q⟩:=hs;exact False.elim q
section
variable {X:Cx}{x:Str}{p pos:Pos}{e:Expr}{es:QD}{t:TA}{id T:String}{r:List V->Hp->VK->Prop}
def Tu (r:List V->Hp->VK->Prop)(t:TA):TE:=λσ H Q=>t σ H λvs G=>r vs G Q
def qC (hc:c8 X (.builtin id) r)(O:Gl X x)(hm:X.mg x=none)(hv:bootBuiltins x=some (.builtin id))(ha:PA X (e::es) t)(hn:x ≠ "__name__":=by decide)(G:(x == ("__debug__" : Str))=false:=by decide)
  (he:starEach (e::es) X.env=(false,eval e X.env)::starEach es X.env:=by rfl) (M:(backTo pos (starEach es X.env)).any (·.1)=false:=by rfl):PE X (.Call (.Name x p) (e::es) [] pos) (Tu r t):=by
 intro ah s σ H Q I h;refine wpAny_Call_Name_kw (i6 I O hm hv ?_ hn G);exact PyProof.Rows.callWith_builtin1 (c7 (ha pos ah s σ H _ I h) λus s1 ⟨vs,U,I1,r1,q1⟩=>hc ah s1 σ U vs us Q I1 r1 q1) he M
def ou (hc:c8 X (.type T) r)(O:Gl X x)(hm:X.mg x=none)(hv:bootBuiltins x=some (.type T))(ha:PA X (e::es) t)(hn:x ≠ "__name__":=by decide)(G:(x == ("__debug__" : Str))=false:=by decide)
  (he:starEach (e::es) X.env=(false,eval e X.env)::starEach es X.env:=by rfl) (M:(backTo pos (starEach es X.env)).any (·.1)=false:=by rfl):PE X (.Call (.Name x p) (e::es) [] pos) (Tu r t):=by
 intro ah s σ H Q I h;refine wpAny_Call_Name_kw (i6 I O hm hv ?_ hn G);exact PyProof.Rows.callWith_type1 (c7 (ha pos ah s σ H _ I h) λus s1 ⟨vs,U,I1,r1,q1⟩=>hc ah s1 σ U vs us Q I1 r1 q1) he M
end
end L2
namespace HT
open PySem PyProof.Rows
section
open PySem.SeqAt
open PySem.AutoSeq1 (wpAny_loadPart')
open PySem.MeetsSeq PySem.MeetsSeq2 PySem.MeetsSeq3
end
section
variable {prog:Program}{w:World}{A:Around}{E:QV}{s:Shared}
def Iw (ht:IsTup s.heap t vs.toArray)(hb:IsTup s.heap b ws.toArray)(hv:vs≠[])
  (h1:ws=[]->Q (.ref t) s) (h2:ws≠[]->Q (.ref s.heap.objs.size) { s with heap:=s.heap.push { cls:=.type "tuple",data:=.seq (vs++ws).toArray } })
  (hsz:vs.length+ws.length<=sizeLine):wpAny (model prog w) A (binaryOp .Add (.ref t) (.ref b)) Q E s:=by
 obtain⟨⟨cls,dd,data,sl⟩,ho,hc,n,hd⟩:=id ht;obtain⟨⟨Sj,M,data2,O⟩,G,T,n2,U⟩:=id hb;simp only at hc hd T U;subst hc hd T U;have e:vs.toArray++ws.toArray=(vs++ws).toArray:=by simp
 by_cases hw:ws=[]
 ·exact concat_meets ⟨_,ho,rfl⟩ ⟨_,G,rfl⟩ noFill_tuple_add seq_tuple_add slot_tuple_add entry_tuple_add (args_tuple_add_2 _ _)
   (tuple_addW1 t b vs.toArray ws.toArray n n2 dd M sl O (by simpa using hv) (by simp[hw])) ⟨ho,G,h1 hw⟩
 ·refine concat_meets ⟨_,ho,rfl⟩ ⟨_,G,rfl⟩ noFill_tuple_add seq_tuple_add slot_tuple_add entry_tuple_add (args_tuple_add_2 _ _)
   (tuple_addW2 t b vs.toArray ws.toArray n n2 dd M sl O (by simpa using hv) (by simpa using hw) (by rw[vH,vH];exact hsz)) ⟨ho,G,?_⟩
  rw[e];exact h2 hw
noncomputable def dS (n d:Nat):OI->Nat
 |none=>d
 |some v=>if v<0 then (v+(n:Int)).toNat else min v.toNat n
def ET (n d:Nat):dS n d none=d:=rfl
def Ix (n d k:Nat):dS n d (some (k:Int))=min k n:=by
 show(if(k:Int)<0 then ((k:Int)+(n:Int)).toNat else min (k:Int).toNat n)=min k n;rw[if_neg (by omega),toNat_natCast]
def Me (n d:Nat)(hd:d<=n)(o:OI):dS n d o<=n:=by
 cases o with
 |none=>exact hd
 |some v=>
  show(if v<0 then (v+(n:Int)).toNat else min v.toNat n)<=n;by_cases hv:v<0
  ·rw[if_pos hv];omega
  ·rw[if_neg hv];exact Nat.min_le_right _ _
def BI (v:Int)(n d:Nat):(if v<0 then max (v+(n:Int)) 0 else min v (n:Int))=((dS n d (some v):Nat):Int):=by
 show(if v<0 then max (v+(n:Int)) 0 else min v (n:Int))=(((if v<0 then (v+(n:Int)).toNat else min v.toNat n):Nat):Int);by_cases hv:v<0
 ·simp only[if_pos hv];omega
 ·simp only[if_neg hv];omega
def A8 (lo hi:OI)(n:Nat):Builtin.Slice.sliceAdjust lo hi 1 (n:Int)=(((dS n 0 lo:Nat):Int),((dS n n hi:Nat):Int)):=by
 have h1:¬((1:Int)<0):=by omega
 unfold Builtin.Slice.sliceAdjust;simp only[h1,if_false];refine Prod.ext ?_ ?_
 ·cases lo with
  |none=>rfl
  |some v=>exact BI v n 0
 ·cases hi with
  |none=>rfl
  |some v=>exact BI v n n
def A9 (i j:Nat):Builtin.Slice.slicePlaces (i:Int) (j:Int) 1=j - i:=by
 unfold Builtin.Slice.slicePlaces;have h1:(1:Int) > 0:=by omega
 simp only[h1,if_true,Int.ediv_one];split<;>omega
def qD (p:IsPart v o)(h:Q o s):wpAny (model prog w) A (Builtin.Slice.slicePartIndex v) Q E s:=by
 cases p with
 |none=>exact slicePart_none h
 |int i t=>exact slicePart_int h
def jw {sl:Addr}{vl O:Value}{lo hi:OI}{n:Nat}{Q:Int×Int×Nat->Shared->Prop}(hs:s.heap.IsSliceOf sl vl O .none)(pl:IsPart vl lo)(T:IsPart O hi)
  (h:Q (((dS n 0 lo:Nat):Int),1,dS n n hi - dS n 0 lo) s):wpAny (model prog w) A (Builtin.Slice.sliceApplied (.ref sl) (pure (n:Int))) Q E s:=by
 obtain⟨os,G,U,M⟩:=id hs;unfold Builtin.Slice.sliceApplied Builtin.Slice.sliceFields;refine wX (wX (wpAny_field G M (x:=vl) rfl (wX (wpAny_field G M (x:=O) rfl (wX (wpAny_field G M (x:=.none) rfl (wY ?_)))))));refine wX (slicePart_none ?_);show wpAny _ _ (if((1:Int) == 0)=true then _ else _) _ _ s;rw[if_neg (by decide)];refine wX (qD pl (wX (qD T (wX (wY ?_)))));show wpAny _ _ (match Builtin.Slice.sliceAdjust lo hi 1 (n:Int) with|(lo,hi)=>pure (lo,(1:Int),Builtin.Slice.slicePlaces lo hi 1)) _ _ s;rw[A8 lo hi n];show wpAny _ _ (pure (((dS n 0 lo:Nat):Int),(1:Int),Builtin.Slice.slicePlaces ((dS n 0 lo:Nat):Int) ((dS n n hi:Nat):Int) 1)) _ _ s;rw[A9];exact wY h
def EU (xs:AV)(i k:Nat):((List.range k).filterMap λ(m:Nat)=>xs[((i:Int)+(m:Int)*1).toNat]?).toArray=((xs.toList.drop i).take k).toArray:=by
 have e:(λ(m:Nat)=>xs[((i:Int)+(m:Int)*1).toNat]?)=λm=>xs[i+m]?:=by
  funext m;have:((i:Int)+(m:Int)*1).toNat=i+m:=by omega
  rw[this]
 rw[e];have:=pick_run xs i k;rw[List.filterMap_map]at this;have e2:((λx=>xs[x]?) ∘ λx=>i+x)=λm=>xs[i+m]?:=rfl;rw[e2]at this;rw[this]
def mC {t sl:Addr}{items:AV}{vl vu:Value}{lo hi:OI}{Q:QV}(M:IsTup s.heap t items)(hs:s.heap.IsSliceOf sl vl vu .none)(pl:IsPart vl lo)(pu:IsPart vu hi)
  (hw:¬(dS items.size 0 lo=0/\dS items.size items.size hi=items.size))
  (h:Q (.ref s.heap.objs.size) { s with heap:=s.heap.push { cls:=.type "tuple",data:=.seq ((items.toList.drop (dS items.size 0 lo)).take (dS items.size items.size hi - dS items.size 0 lo)).toArray } })
  (hsz:items.size<=sizeLine):wpAny (model prog w) A (getItem (.ref t) (.ref sl)) Q E s:=by
 have G:sizeOk (.seq ((items.toList.drop (dS items.size 0 lo)).take (dS items.size items.size hi - dS items.size 0 lo)).toArray):=by
  show((items.toList.drop (dS items.size 0 lo)).take (dS items.size items.size hi - dS items.size 0 lo)).toArray.size<=sizeLine
  rw[vH,length_take,length_drop,vG]
  omega
 have hj:dS items.size items.size hi<=items.size:=Me _ _ (vT _) hi
 obtain⟨os,O,T,Sk⟩:=id hs
 have U:s.TypeIs (.ref sl) "slice":=⟨os,O,T⟩
 unfold getItem
 try with_reducible refine wpAny_holding ?_
 first|refine wX (wY ?_)|skip
 refine wX (wpAny_sequenceKey M.typeIs (by decide) ?_)
 refine wX (wpAny_callSpecial?_slot (name:=Str.ofString "__getitem__") M.typeIs PyProof.Rows.slot_tuple_getitem
  (wpAny_call_entry PyProof.Rows.slot_tuple_getitem M.typeIs entry_tuple_getitem ?_ (args_tuple_getitem _ _)))
 show wpAny _ _ (Builtin.Tuple.tupleItemsOf (.ref t)>>=_) _ _ s
 refine wX (tupleItemsOf_ M ?_)
 refine wX (wpAny_typeOf U ?_)
 rw[if_pos (by decide)]
 refine wX (jw hs pl pu ?_)
 have Wf:¬((((dS items.size 0 lo:Nat):Int) == 0 && (1:Int) == 1 && (dS items.size items.size hi - dS items.size 0 lo) == items.size)=true):=by
  intro q
  rw[vC,vC]at q
  have q1:((dS items.size 0 lo:Nat):Int)=0:=eq_of_beq q.1.1
  have q2:dS items.size items.size hi - dS items.size 0 lo=items.size:=eq_of_beq q.2
  exact hw ⟨by omega,by omega⟩
 show wpAny _ _ (if(((dS items.size 0 lo:Nat):Int) == 0 && (1:Int) == 1 && (dS items.size items.size hi - dS items.size 0 lo) == items.size)=true then _ else _) _ _ s
 rw[if_neg Wf,EU]
 first
  |exact wX (m:=Builtin.Tuple.tupleExact _) (wpAny_newObj_type (wY ⟨_,rfl,wY h⟩) G)
  |exact wX (m:=Builtin.Tuple.tupleExact _) (wpAny_newObj_type (wX (wY (wY ⟨_,rfl,wY h⟩))) G)
  |exact wX (wX (m:=Builtin.Tuple.tupleExact _) (wpAny_newObj_type (wY (wY ⟨_,rfl,wY h⟩)) G))
  |exact wX (wX (m:=Builtin.Tuple.tupleExact _) (wpAny_newObj_type (wY ⟨_,rfl,wY h⟩) G))
end
end HT
namespace L2
open PySem PySem.Spec PyProof.Rows
abbrev TO:=St->Hp->(OI->Hp->Prop)->Prop
def PO (X:Cx)(e:Option Expr)(t:TO):Prop :=
 ∀(ah:AO)(s:Shared)(σ:St)(H:Hp)(Q:OI->Hp->Prop),Inv X ah σ H s->t σ H Q ->
  wq X (evalPart e X.env) (λu s'=>∃o H',Inv X ah σ H' s'/\IsPart u o/\Q o H') X.xe s
def Iy:TO:=λ_ H Q=>Q none H
def OA (t:TE):TO:=λσ H Q=>t σ H λx G=>∃i,x=.int i/\Q (some i) G
section
variable {X:Cx}{e:Expr}{te:TE}{lo hi:Option Expr}{tl th:TO}{pos p2:Pos}
def Iz:PO X none Iy:=by
 intro ah s σ H Q I h;rw[evalPart_none];exact wY ⟨none,H,I,.none,h⟩
def IA (h:PE X e te):PO X (some e) (OA te):=by
 intro ah s σ H Q I hw;rw[evalPart_some];refine c7 (h ah s σ H _ I hw) λu s1 ⟨x,G,M,O,T⟩=>?_;obtain⟨i,rfl,q⟩:=T;obtain⟨t,rfl⟩:=O;exact⟨some i,G,M,.int i t,q⟩
def E9 (X:Cx)(r:V->OI->OI->Hp->VK->Prop):Prop :=
 ∀(ah:AO)(s:Shared)(σ:St)(H:Hp)(x:V)(v vl G:Value)(lo hi:OI)(sl:Addr)(Q:VK),Inv X ah σ H s->be x v->s.heap.IsSliceOf sl vl G .none->IsPart vl lo->IsPart G hi->r x lo hi H Q ->
  ∃T id,typeLookup (.type T) "__getitem__" = pure (some (.builtin id))/\s.TypeIs v T/\wq X (getItem v (.ref sl)) (EP X ah σ Q) X.xe s
def E9.or (h:E9 X r)(h':E9 X r'):E9 X (λx lo hi H Q=>r x lo hi H Q∨r' x lo hi H Q):=by
 intro ah s σ H x v vl G lo hi sl Q I M hs pl O q;rcases q with q|q
 ·exact h ah s σ H x v vl G lo hi sl Q I M hs pl O q
 ·exact h' ah s σ H x v vl G lo hi sl Q I M hs pl O q
def Vc (r:V->OI->OI->Hp->VK->Prop)(te:TE)(tl th:TO):TE:=λσ H Q=>te σ H λx G=>tl σ G λl H2=>th σ H2 λu M=>r x l u M Q
def EV (U:E9 X r)(he:PE X e te)(hl:PO X lo tl)(hu:PO X hi th):PE X (.Subscript e (.Slice lo hi none p2) pos) (Vc r te tl th):=by
 intro ah s σ H Q I h;refine Subscript_ (c7 (he ah s σ H _ I h) λv s1 ⟨x,H1,I1,r1,q1⟩=>?_);refine wpAny_Slice (c7 (hl ah s1 σ H1 _ I1 q1) λvl s2 ⟨l,H2,I2,pl,q2⟩=>c7 (hu ah s2 σ H2 _ I2 q2) λM G ⟨u,O,I3,pu,q3⟩=>?_);rw[evalPart_none];refine wY ?_;have I4:Inv X ah σ O { G with heap:=G.heap.push { cls:=.type "slice",data:=.fields #[vl,M,.none] } }:=I3.kept (t':=G.toks) λb ob q=>vZ _ q;obtain⟨T,id,hT,ht,hg⟩:=U ah { G with heap:=G.heap.push { cls:=.type "slice",data:=.fields #[vl,M,.none] } } σ O x v vl M l u G.heap.objs.size Q I4 r1 (Heap.IsSliceOf.new ..) pl pu q3;show wq X (subscriptTail e (.Slice lo hi none p2) v (.ref G.heap.objs.size)) (EP X ah σ Q) X.xe { G with heap:=G.heap.push { cls:=.type "slice",data:=.fields #[vl,M,.none] } };exact tail_any (ops:=[.ref G.heap.objs.size,v]) ht hT hg (by with_unfolding_all rfl)
def tV (xs:List V)(lo hi:OI):List V:=(xs.drop (HT.dS xs.length 0 lo)).take (HT.dS xs.length xs.length hi - HT.dS xs.length 0 lo)
def pf (xs:List V)(lo hi:OI):(tV xs lo hi).length<=xs.length:=by
 unfold tV;rw[length_take,length_drop];omega
def Rk (K:Frag):V->OI->OI->Hp->VK->Prop:=λx lo hi H Q=>∃a xs,x=.ref a/\js K H a xs /\
 ¬(HT.dS xs.length 0 lo=0/\HT.dS xs.length xs.length hi=xs.length)/\∀p,H p=none->Q (.ref p) (upd H p (.tup (tV xs lo hi)))
def Mf:E9 X (Rk X.K):=by
 intro ah s σ H x v vl U lo hi sl Q I O hs pl T h;obtain⟨a,xs,rfl,hx,hw,q⟩:=h;cases O
 obtain⟨its,r,M,hz⟩:=I.tuple hx;have G:its.toArray.size=xs.length:=by rw[vH];exact r.length.symm
 refine⟨"tuple",_,PyProof.Rows.slot_tuple_getitem.lookup,M.typeIs,?_⟩;refine HT.mC M hs pl T (by rw[G];exact hw) ?_ (by rw[G];exact hz);rw[G];refine⟨.ref s.heap.objs.size,_,I.laid (t':=s.toks) (o:=.tup (tV xs lo hi)) (λb ob q=>vZ _ q) (vT _) ?_,rfl,q _ (I.hok.fresh (vT _))⟩;exact⟨vR (pf xs lo hi) hz,_,(r.drop (HT.dS xs.length 0 lo)).take (HT.dS xs.length xs.length hi - HT.dS xs.length 0 lo),IsTup.new _ _⟩
def OC (K:Frag):R2:=λx y H Q=>∃a b xs ys,x=.ref a/\y=.ref b/\js K H a xs/\js K H b ys/\xs≠[]/\xs.length+ys.length<=sizeLine /\
 (ys=[]->Q (.ref a) H)/\(ys≠[]->∀p,H p=none->Q (.ref p) (upd H p (.tup (xs++ys))))
def b7.nil_iff (r:b7 xs us):us=[]↔xs=[]:=by
 cases r with
 |nil=>simp
 |cons _ _=>simp
def IB:dL X (binaryOp .Add) (OC X.K):=by
 intro ah s σ H x y v u Q I T U h;obtain⟨a,b,xs,ys,rfl,rfl,ha,hb,hx,hz,q1,q2⟩:=h;cases T
 cases U
 obtain⟨its,M,p1,_⟩:=I.tuple ha;obtain⟨O,G,p2,_⟩:=I.tuple hb;refine HT.Iw p1 p2 (λz=>hx (M.nil_iff.mp z)) (λz=>⟨.ref a,H,I,rfl,q1 (G.nil_iff.mp z)⟩) (λz=>?_) (by rw[←M.length,←G.length];exact hz);refine⟨.ref s.heap.objs.size,_,I.laid (t':=s.toks) (o:=.tup (xs++ys)) (λb ob q=>vZ _ q) (vT _) ?_,rfl,q2 (λw=>z (G.nil_iff.mpr w)) _ (I.hok.fresh (vT _))⟩;exact⟨by rw[uZ];exact hz,_,M.append G,IsTup.new _ _⟩
end
def EW (n:Nat)(i:Int):Option Nat:=if 0<=i then (if i<n then some i.toNat else none)else if -(n:Int)<=i then some (i+n).toNat else none
def mD {α:Type}(xs:List α)(i:Int):Option α:=(EW xs.length i).bind λj=>xs[j]?
def IC (h:EW n i=some j):seqIndex? i n=some j/\j<n/\-(n:Int)<=i/\i<n:=by
 unfold EW at h;by_cases h0:0<=i
 ·rw[if_pos h0]at h;by_cases h1:i<n
  ·rw[if_pos h1]at h;have e:i.toNat=j:=vK h;exact⟨by rw[seqIndex_of h0 h1,e],by omega,by omega,h1⟩
  ·rw[if_neg h1]at h;cases h
 ·rw[if_neg h0]at h;by_cases h1 : -(n:Int)<=i
  ·rw[if_pos h1]at h;have e:(i+n).toNat=j:=vK h;exact⟨by rw[seqIndex_neg (by omega) h1,e],by omega,h1,by omega⟩
  ·rw[if_neg h1]at h;cases h
def wH {α:Type}{xs:List α}{i:Int}{v:α}(h:mD xs i=some v):∃j,seqIndex? i xs.length=some j/\xs[j]? = some v/\j<xs.length/\-(xs.length:Int)<=i/\i<xs.length:=by
 unfold mD at h;cases e:EW xs.length i with
 |none=>rw[e]at h;cases h
 |some j=>
  rw[e]at h;obtain⟨h1,h2,h3,h4⟩:=IC e;exact⟨j,h1,h,h2,h3,h4⟩
def ID {α:Type}{xs:List α}{j:Nat}{v:α}(h:xs[j]? = some v):mD xs (j:Int)=some v:=by
 have hj:j<xs.length:=(vV h).1;have e:EW xs.length (j:Int)=some j:=by
  unfold EW;rw[if_pos (by omega),if_pos (by omega)];simp
 unfold mD;rw[e];exact h
def mE (b:Expr):Prop:=∀o i,subscripted b false o i=operate [o,i] (getItem o i)
def EX (X:Cx)(r:R2):Prop :=
 ∀(M G:Expr)(ah:AO)(s:Shared)(σ:St)(H:Hp)(x y:V)(v u:Value)(Q:VK),Inv X ah σ H s->be x v->be y u->r x y H Q ->
  subscripted G false v u=operate [v,u] (getItem v u)->wq X (subscriptTail M G v u) (EP X ah σ Q) X.xe s
def Mg (X:Cx)(id:String)(r:V->List V->Hp->VK->Prop):Prop :=
 ∀(ah:AO)(s:Shared)(σ:St)(H:Hp)(x:V)(xs:List V)(v:Value)(us:LU)(Q:VK),Inv X ah σ H s->be x v->b7 xs us->r x xs H Q ->
  wq X (call (.builtin id) (v::us)) (EP X ah σ Q) X.xe s
section
variable {X:Cx}{a b:Expr}{ta tb:TE}{pos:Pos}
def EX.or (h:EX X r)(h':EX X r'):EX X (λx y H Q=>r x y H Q∨r' x y H Q):=by
 intro G M ah s σ H x y v u Q I O T q hs;rcases q with q|q
 ·exact h G M ah s σ H x y v u Q I O T q hs
 ·exact h' G M ah s σ H x y v u Q I O T q hs
def Mg.or {id:String}{r G:V->List V->Hp->VK->Prop}(h:Mg X id r)(h':Mg X id G):Mg X id (λx xs H Q=>r x xs H Q∨G x xs H Q):=by
 intro ah s σ H x xs v us Q I M O q;rcases q with q|q
 ·exact h ah s σ H x xs v us Q I M O q
 ·exact h' ah s σ H x xs v us Q I M O q
def EY (G:EX X r)(ha:PE X a ta)(hb:PE X b tb)(hs:mE b):PE X (.Subscript a b pos) (Q0 r ta tb):=by
 intro ah s σ H Q I h;exact Subscript_ (LP ha hb I h λv u s2 x y H2 M O T q=>G a b ah s2 σ H2 x y v u Q M O T q (hs _ _))
def Rm (K:Frag):R2:=λx y H Q=>∃p xs i v,x=.ref p/\y=.int i/\gT K H p xs/\mD xs i=some v/\Q v H
def Rn (K:Frag):R2:=λx y H Q=>∃p xs i v,x=.ref p/\y=.int i/\js K H p xs/\mD xs i=some v/\Q v H
def Ro:R2:=λx y H Q=>∃z i c,x=.str z/\y=.int i/\z.length<=sizeLine/\mD z.cps.toList i=some c/\Q (.str ⟨#[c]⟩) H
def IE:EX X (Rm X.K):=by
 intro G M ah s σ H x y v u Q I U ry h hs;obtain⟨p,xs,i,z,rfl,rfl,hq,he,q⟩:=h;cases U
 obtain⟨t,rfl⟩:=ry;obtain⟨its,r,pl,hz⟩:=I.list hq;obtain⟨j,h1,h2,h3,h4,h5⟩:=wH he;obtain⟨w,T,O⟩:=r.get h2;have hl:=r.length;have hn:=qB;have ju:EP X ah σ Q w s:=⟨z,H,I,O,q⟩;by_cases h0:0<=i
 ·have hj:i.toNat=j:=by
   rw[seqIndex_of h0 h5]at h1;exact vK h1
  exact item_listR pl.isList h0 (by omega) (by rw[hj];simpa using T) ju hs
 ·have hj:(i+(its.toArray.size:Int)).toNat=j:=by
   rw[seqIndex_neg (by omega) h4]at h1;rw[vH,←hl];exact vK h1
  exact subscriptTail_builtinR (x:=w) pl.isList.typeIs slot_list_getitem.lookup
   (wpAny_getItem_list_neg (Q:=λr s'=>r=w/\EP X ah σ Q r s') pl.isList (by omega) (by rw[vH]<;>omega) (by omega) (by rw[hj];simpa using T) ⟨rfl,ju⟩) hs
def EZ:EX X (Rn X.K):=by
 intro G M ah s σ H x y v u Q I T U h hs;obtain⟨p,xs,i,z,rfl,rfl,hq,he,q⟩:=h;cases T
 obtain⟨t,rfl⟩:=U;obtain⟨its,r,pl,hz⟩:=I.tuple hq;obtain⟨j,h1,h2,h3,h4,h5⟩:=wH he;obtain⟨w,ew,O⟩:=r.get h2;have hl:=r.length;have hn:=qB;have ju:EP X ah σ Q w s:=⟨z,H,I,O,q⟩;exact subscriptTail_builtinR (x:=w) pl.typeIs slot_tuple_getitem.lookup
  (getItem_tuple (j:=j) (Q:=λr s'=>r=w/\EP X ah σ Q r s') pl (by omega) (by omega) (by rw[vH,←hl];exact h1) (by simpa using ew) ⟨rfl,ju⟩) hs
def Fa:EX X Ro:=by
 intro G M ah s σ H x y v u Q I O T h hs;obtain⟨z,i,c,rfl,rfl,hz,he,q⟩:=h;obtain⟨t,rfl⟩:=O;obtain⟨t',rfl⟩:=T;obtain⟨j,h1,h2,h3,h4,h5⟩:=wH he;have hl:z.cps.toList.length=z.length:=by simp[Str.length]
 rw[hl]at h1 h4 h5;have hn:=qB;exact tail_any (typeIs_str s z t) slot_str_getitem.lookup (getItem_str (c:=c) (by
  have U:decide (i < -(2 ^ 63:Int))=false:=PK (by omega);have e2:decide (i ≥ 2 ^ 63)=false:=PK (by omega);rw[U,e2,Bool.or_false]) (by rw[h1];simpa using h2) ⟨.str ⟨#[c]⟩,H,I.tok _,⟨_,rfl⟩,q⟩) hs
def Inv.lst (I:Inv X ah σ H s)(h:H p=some (.lst xs)):
  ∃(its:LU)(n:Nat),b7 xs its/\s.heap.get? p=some { cls:=.type "list",data:=.seq its.toArray n }/\xs.length<=sizeLine:=by
 obtain⟨z,its,n,r,e⟩:=I.hok p _ h;exact⟨its,n,r,e,z⟩
def wI (lo hi:OI)(n:Nat):(sliceBounds lo hi none n).1=((HT.dS n 0 lo:Nat):Int)/\(sliceBounds lo hi none n).2.1=((HT.dS n n hi:Nat):Int)/\(sliceBounds lo hi none n).2.2=1:=by
 refine⟨?_,?_,rfl⟩
 ·cases lo with
  |none=>simp[sliceBounds,HT.dS]
  |some i=>
   simp only[sliceBounds,HT.dS,getD_none,show(1:Int) > 0 by decide,if_true];by_cases h:i<0
   ·simp only[h,if_true]<;>omega
   ·simp only[h,if_false]<;>omega
 ·cases hi with
  |none=>simp[sliceBounds,HT.dS]
  |some i=>
   simp only[sliceBounds,HT.dS,getD_none,show(1:Int) > 0 by decide,if_true];by_cases h:i<0
   ·simp only[h,if_true]<;>omega
   ·simp only[h,if_false]<;>omega
def tW (its:LU)(lo hi:OI):slicePick its.toArray lo hi none=((its.drop (HT.dS its.length 0 lo)).take (HT.dS its.length its.length hi - HT.dS its.length 0 lo)).toArray:=by
 obtain⟨h1,h2,h3⟩:=wI lo hi its.toArray.size;unfold slicePick;rw[h1,h2,h3];simp only[sliceRange_one,pick_run,vH]<;>rfl
def Rp (K:Frag):V->OI->OI->Hp->VK->Prop:=λx lo hi H Q=>∃a xs,x=.ref a/\gT K H a xs/\∀p,H p=none->Q (.ref p) (upd H p (.lst (tV xs lo hi)))
def IF:E9 X (Rp X.K):=by
 intro ah s σ H x v vl U lo hi sl Q I O hs pl T h;obtain⟨a,xs,rfl,hx,q⟩:=h;cases O
 obtain⟨its,r,M,hz⟩:=I.list hx;have G:=r.length;refine⟨"list",_,slot_list_getitem.lookup,M.isList.typeIs,?_⟩;refine wpAny_getItem_list_slice M.isList hs pl T .none (by simp) ?_ (by rw[vH]<;>omega)
 rw[tW,←G];refine⟨.ref s.heap.objs.size,_,I.laid (t':=s.toks) (o:=.lst (tV xs lo hi)) (λb ob q=>vZ _ q) (vT _) ?_,rfl,q _ (I.hok.fresh (vT _))⟩;exact⟨vR (pf xs lo hi) hz,_,0,(r.drop (HT.dS xs.length 0 lo)).take (HT.dS xs.length xs.length hi - HT.dS xs.length 0 lo),vY _ rfl⟩
noncomputable def lK:V->Bool
 |.non=>true
 |.bl _=>true
 |.int _=>true
 |.str _=>true
 |_=>false
def HZ:V->V->Bool
 |.non,.non=>true
 |.bl a,.bl b=>a == b
 |.bl a,.int b=>(if a then 1 else 0) == b
 |.int a,.bl b=>a == (if b then 1 else 0)
 |.int a,.int b=>a == b
 |.str a,.str b=>a == b
 |_,_=>false
def Mh (M:be y u)(G:be x v)(T:lK y=true)(O:lK x=true):SeqAt.EqAt A s u v (HZ y x):=by
 cases y with
 |non=>
  cases M
  cases x with
  |non=>cases G;exact SeqAt.EqAt.same _
  |bl b=>cases G;exact SeqAt.EqAt.none_bool b
  |int b=>obtain⟨t,rfl⟩:=G;exact SeqAt.EqAt.none_int b t
  |str b=>obtain⟨t,rfl⟩:=G;exact SeqAt.EqAt.none_str b t
  |_=>exact absurd (show false=true from O) uX
 |bl a=>
  cases M
  cases x with
  |non=>cases G;exact SeqAt.EqAt.bool_none a
  |bl b=>cases G;exact SeqAt.EqAt.bool_bool a b
  |int b=>obtain⟨t,rfl⟩:=G;exact SeqAt.EqAt.bool_int a b t
  |str b=>obtain⟨t,rfl⟩:=G;exact SeqAt.EqAt.bool_str a b t
  |_=>exact absurd (show false=true from O) uX
 |int a=>
  obtain⟨t',rfl⟩:=M;cases x with
  |non=>cases G;exact SeqAt.EqAt.int_none a t'
  |bl b=>cases G;exact SeqAt.EqAt.int_bool a t' b
  |int b=>obtain⟨t,rfl⟩:=G;exact SeqAt.EqAt.int_int a t' b t
  |str b=>obtain⟨t,rfl⟩:=G;exact SeqAt.EqAt.int_str a t' b t
  |_=>exact absurd (show false=true from O) uX
 |str a=>
  obtain⟨t',rfl⟩:=M;cases x with
  |non=>cases G;exact SeqAt.EqAt.str_none a t'
  |bl b=>cases G;exact SeqAt.EqAt.str_bool a t' b
  |int b=>obtain⟨t,rfl⟩:=G;exact SeqAt.EqAt.str_int a t' b t
  |str b=>obtain⟨t,rfl⟩:=G;exact SeqAt.EqAt.str_str a t' b t
  |_=>exact absurd (show false=true from O) uX
 |_=>exact absurd (show false=true from T) uX
def AA (x:V)(u:Value):Bool:=match u with
 |.none=>HZ .non x
 |.bool b=>HZ (.bl b) x
 |.int i _=>HZ (.int i) x
 |.str z _=>HZ (.str z) x
 |_=>false
def Fb (r:be y u)(f:lK y=true):AA x u=HZ y x:=by
 cases y with
 |non=>cases r;rfl
 |bl b=>cases r;rfl
 |int i=>obtain⟨t,rfl⟩:=r;rfl
 |str z=>obtain⟨t,rfl⟩:=r;rfl
 |_=>exact absurd (show false=true from f) uX
theorem mF:∀ {xs:List V}{us:LU},b7 xs us->xs.all lK=true->us.any (AA x)=xs.any λy=>HZ y x
 |_,_,.nil,_=>rfl
 |y::xs,u::us,.cons r t,f=>by
  rw[all_cons,vC]at f;rw[any_cons,any_cons,Fb r f.1,mF t f.2]
theorem kn (G:be x v)(M:lK x=true):∀ {xs:List V}{us:LU},b7 xs us->xs.all lK=true->∀u∈us,SeqAt.EqAt A s u v (AA x u)
 |_,_,.nil,_=>λu hu=>by cases hu
 |y::xs,u::us,.cons r t,f=>λO hu=>by
  rw[all_cons,vC]at f;rcases vP hu with rfl|hu
  ·rw[Fb r f.1];exact Mh r G f.1 M
  ·exact kn G M t f.2 O hu
noncomputable def Q1 (x:V)(xs:List V):Bool:=xs.any λy=>HZ y x
def Tv (K:Frag)(G:Bool):R2:=λx y H Q=>∃p xs,y=.ref p/\(gT K H p xs∨js K H p xs)/\lK x=true/\xs.all lK=true/\Q (.bl (if G then !Q1 x xs else Q1 x xs)) H
def D2:dL X (compareOp .In) (Tv X.K false):=by
 intro ah s σ H x y v u Q I G O h;obtain⟨p,xs,rfl,hq,M,fs,q⟩:=h;cases O
 rcases hq with hq|hq
 ·obtain⟨its,r,pl,hz⟩:=I.list hq;refine SeqAt.in_listAt (AA x) pl.isList (λw hw=>kn G M r fs w (by simpa using hw)) ⟨.bl _,H,I,rfl,?_⟩;rw[show its.toArray.any (AA x)=its.any (AA x) by simp,mF r fs];exact q
 ·obtain⟨its,r,pl,hz⟩:=I.tuple hq;refine SeqAt.in_tupleAt (AA x) pl (λw hw=>kn G M r fs w (by simpa using hw)) ⟨.bl _,H,I,rfl,?_⟩;rw[show its.toArray.any (AA x)=its.any (AA x) by simp,mF r fs];exact q
def wJ:dL X (compareOp .NotIn) (Tv X.K true):=by
 intro ah s σ H x y v u Q I G O h;obtain⟨p,xs,rfl,hq,M,fs,q⟩:=h;cases O
 rcases hq with hq|hq
 ·obtain⟨its,r,pl,hz⟩:=I.list hq;refine SeqAt.notIn_listAt (AA x) pl.isList (λw hw=>kn G M r fs w (by simpa using hw)) ⟨.bl _,H,I,rfl,?_⟩;rw[show its.toArray.any (AA x)=its.any (AA x) by simp,mF r fs];exact q
 ·obtain⟨its,r,pl,hz⟩:=I.tuple hq;refine SeqAt.notIn_tupleAt (AA x) pl (λw hw=>kn G M r fs w (by simpa using hw)) ⟨.bl _,H,I,rfl,?_⟩;rw[show its.toArray.any (AA x)=its.any (AA x) by simp,mF r fs];exact q
def wK:c8 X (.builtin "len") (λxs H Q=>∃p ys,xs=[.ref p]/\(gT X.K H p ys∨js X.K H p ys)/\Q (.int ys.length) H):=by
 intro ah s σ H xs us Q I r h;obtain⟨p,ys,rfl,hq,q⟩:=h;obtain⟨u,rfl,O⟩:=jX r;cases O
 have hn:=qB;rcases hq with hq|hq
 ·obtain⟨its,M,pl,hz⟩:=I.list hq;have G:=M.length;exact Calls.call_len_list pl.isList (by simp only[vH]<;>omega) ⟨.int ys.length,H,I.tok _,⟨s.toks+1,by rw[vH,G]⟩,q⟩
 ·obtain⟨its,M,pl,hz⟩:=I.tuple hq;have G:=M.length;exact len_tuple pl (by simp only[vH]<;>omega) ⟨.int ys.length,H,I.tok _,⟨s.toks+1,by rw[vH,G]⟩,q⟩
def wL:c8 X (.builtin "len") (λxs H Q=>∃z,xs=[.str z]/\z.length<=sizeLine/\Q (.int z.length) H):=by
 intro ah s σ H xs us Q I r h;obtain⟨z,rfl,hz,q⟩:=h;obtain⟨u,rfl,t,rfl⟩:=jX r;have hn:=qB;exact len_str (by omega) ⟨.int z.length,H,I.tok _,⟨_,rfl⟩,q⟩
def c8.or (h:c8 X f r)(h':c8 X f r'):c8 X f (λxs H Q=>r xs H Q∨r' xs H Q):=by
 intro ah s σ H xs us Q I G q;rcases q with q|q
 ·exact h ah s σ H xs us Q I G q
 ·exact h' ah s σ H xs us Q I G q
def tX:c8 X (.type "tuple") (λxs H Q=>∃p ys,xs=[.ref p]/\((gT X.K H p ys/\∀l,H l=none->Q (.ref l) (upd H l (.tup ys)))∨(js X.K H p ys/\Q (.ref p) H))):=by
 intro ah s σ H xs us Q I r h;obtain⟨p,ys,rfl,h⟩:=h;obtain⟨u,rfl,T⟩:=jX r;cases T
 rcases h with⟨hq,q⟩|⟨hq,q⟩
 ·obtain⟨its,G,pl,hz⟩:=I.list hq;have M:=G.length;refine call_tuple_list pl.isList (λh' kp=>?_) (by simp only[vH]<;>omega)
  have O:Inv X ah σ H { s with heap:=h' }:=I.kept (t':=s.toks) kp;have U:Inv X ah σ (upd H h'.objs.size (.tup ys)) { s with heap:=h'.push { cls:=.type "tuple",data:=.seq its.toArray } } :=
   O.laid (t':=s.toks) (λb o e=>vZ _ e) (vT _) (show bR X.prog X.w _ _ _ (.tup ys)from ⟨hz,its,G,IsTup.new _ _⟩)
  exact⟨.ref h'.objs.size,_,U,rfl,q _ (O.hok.fresh (vT _))⟩
 ·obtain⟨its,G,pl,hz⟩:=I.tuple hq;exact call_tuple_same pl ⟨.ref p,H,I,rfl,q⟩
def Tw (K:Frag)(T:String)(x:V)(H:Hp):Prop:=match x with
 |.str _=>T = "str"
 |.int _=>T = "int"
 |.ref p=>(T = "list"/\∃xs,gT K H p xs)∨(T = "tuple"/\∃o,K.lookup p=some o/\o.cls=.type "tuple"/\o.dict=none) ∨
   (T = "dict"/\((∃aM ob,H p=some (.dK aM ob))∨∃aM,H p=some (.dT aM)))∨(T = "set"/\∃S n,H p=some (.set S n))
 |_=>False
def AB (I:Inv X ah σ H s)(r:be x v)(ty:Tw X.K T x H):
  s.TypeIs v T/\∀a,v=.ref a->∃ob,s.heap.get? a=some ob/\ob.dict=none:=by
 cases x with
 |str z=>
  obtain⟨t,rfl⟩:=r;cases (show T = "str" from ty)
  exact⟨typeIs_str s z t,λ_ e=>nomatch e⟩
 |int i=>
  obtain⟨t,rfl⟩:=r;cases (show T = "int" from ty)
  exact⟨typeIs_int s i t,λ_ e=>nomatch e⟩
 |ref p=>
  cases r
  rcases ty with⟨rfl,xs,hq⟩|⟨rfl,o,hk,hc,hd⟩|⟨rfl,hk⟩|⟨rfl,S,n,hk⟩
  ·obtain⟨its,_,pl,_⟩:=I.list hq;refine⟨pl.isList.typeIs,λa e=>?_⟩;cases e
   obtain⟨o,n,e,c,hd,_⟩:=pl;exact⟨o,e,hd⟩
  ·refine⟨⟨o,I.kIn p o hk,hc⟩,λa e=>?_⟩;cases e
   exact⟨o,I.kIn _ o hk,hd⟩
  ·have z:∃o,s.heap.get? p=some o/\o.ExactDict:=by
    rcases hk with⟨aM,G,hk⟩|⟨aM,hk⟩
    ·obtain⟨_,_,_,_,_,o,_,_,e,ex,_⟩:=I.hok p _ hk;exact⟨o,e,ex⟩
    ·obtain⟨_,_,_,_,o,_,_,e,ex,_⟩:=I.hok p _ hk;exact⟨o,e,ex⟩
   obtain⟨o,e,ex⟩:=z;refine⟨⟨o,e,ex.1⟩,λa e2=>?_⟩;cases e2
   exact⟨o,e,ex.2.1⟩
  ·obtain⟨o,_,_,_,e,ex,_⟩:=I.hok p _ hk;refine⟨⟨o,e,ex.1⟩,λa e2=>?_⟩;cases e2
   exact⟨o,e,ex.2.1⟩
 |_=>exact False.elim ty
def Vd (K:Frag)(T:String)(r:V->List V->Hp->VK->Prop)(to:TE)(t:TA):TE:=λσ H Q=>to σ H λx G=>Tw K T x G/\t σ G λxs H2=>r x xs H2 Q
variable {o e:Expr}{es:QD}{to:TE}{t:TA}{name:Str}{dM cF:Pos}{T id:String}{r:V->List V->Hp->VK->Prop}
def Fc (pa:PlainAttrs T)(slot:Slot T name id)(Wg:typeOf (.builtin id)=pure (.type "method_descriptor"))(hm:Mg X id r)(ho:PE X o to)(ha:PA X (e::es) t)
  (M:attributeBase o name X.env (eval o X.env)=eval o X.env:=by rfl)
  (U:((backTo cF (starEach (e::es) X.env)).all (λx=>!x.1) && (backToKw cF (keywordEach [] X.env)).all (λx=>x.1.isSome)
   && decide ((e::es).length+([]:List Keyword).length+(if([]:List Keyword).isEmpty then 0 else 1)<30))=true:=by rfl)
  (O:(dM.endLine == cF.line)=true:=by rfl) (hs:starEach (e::es) X.env=(false,eval e X.env)::starEach es X.env:=by rfl) (G:(backTo cF (starEach es X.env)).any (·.1)=false:=by rfl):
  PE X (.Call (.Attribute o name dM) (e::es) [] cF) (Vd X.K T r to t):=by
 intro ah s σ H Q I h;refine wpAny_Call_method_late M U O rfl (c7 (ho ah s σ H _ I h) λv s1 ⟨x,H1,I1,r1,ty,q1⟩=>?_);obtain⟨h1,h2⟩:=AB I1 r1 ty;refine⟨T,id,pa,slot,Wg,h1,h2,?_⟩;have hA:=ha cF ah s1 σ H1 _ I1 q1;rw[hs]at hA ⊢;refine Calls.callWith_builtin (by show(false || (backTo cF (starEach es X.env)).any (·.1))=false;rw[G]<;>rfl) (Calls.evalArgs_plain ?_)
 exact c7 hA λus s2 ⟨vs,H2,I2,r2,q2⟩=>hm ah s2 σ H2 x vs v us Q I2 r1 r2 q2
/- xs.append(e),list.index on a module's tuple .. are Mg facts of 06m -/
end
def Tz (X:Cx)(id:String)(r:V->List V->Hp->VK->Prop):Prop :=
 ∀(ah:AO)(s:Shared)(σ:St)(H:Hp)(x:V)(xs:List V)(v:Value)(us:LU)(Q:VK),Inv X ah σ H s->be x v->b7 xs us->r x xs H Q ->
  wq X (call (.builtin id) (v::us)) (EP X ah σ Q) X.xe s
theorem b7.one:∀ {x:V}{us:LU},b7 [x] us->∃u,us=[u]/\be x u
 |_,_,.cons r .nil=>⟨_,rfl,r⟩
theorem b7.two:∀ {x y:V}{us:LU},b7 [x,y] us->∃u v,us=[u,v]/\be x u/\be y v
 |_,_,_,.cons r (.cons q .nil)=>⟨_,_,rfl,r,q⟩
theorem b7.zero:∀ {us:LU},b7 [] us->us=[]
 |_,.nil=>rfl
section
variable {X:Cx}{ah:AO}{σ:St}{H:Hp}{s:Shared}{l b:Addr}{xs ys zs:List V}
def Inv.lset {its its':LU}{n:Nat}{f:AV->AV}{t':Nat}(I:Inv X ah σ H s)(G:H l=some (.lst xs))
  (e:s.heap.get? l=some { cls:=.type "list",data:=.seq its.toArray n }) (hf:f its.toArray=its'.toArray) (hv:b7 ys its') (hz:ys.length<=sizeLine):
  Inv X ah σ (upd H l (.lst ys)) { s with heap:=s.heap.update l (Obj.mapSeq f),toks:=t' }:=by
 have q:=PySem.IsL.update e f;rw[hf]at q;refine I.write (x:=l) (e:=l) (by rw[G];exact trivial) (.inl rfl) (λM u hb hu=>(Heap.get?_update_other s.heap (Obj.mapSeq f) (Ne.symm hb)).trans hu) ⟨_,q⟩ ?_;exact⟨hz,its',_,hv,q⟩
def Inv.lnew (I:Inv X ah σ H s)(hv:b7 ys its)(hz:ys.length<=sizeLine):
  Inv X ah σ (upd H s.heap.objs.size (.lst ys)) { s with heap:=s.heap.push { cls:=.type "list",data:=.seq its.toArray },toks:=t' } :=
 I.laid (λ_ _ q=>vZ _ q) (vT _) ⟨hz,its,0,hv,vY _ rfl⟩
def Inv.fresh (I:Inv X ah σ H s):H s.heap.objs.size=none:=I.hok.fresh (vT _)
def Inv.lstM (I:Inv X ah σ H s)(G:H l=some (.lst xs)):xs.length<=sizeLine/\∃(its:LU)(n:Nat),b7 xs its/\xs.length=its.length/\s.heap.get? l=some { cls:=.type "list",data:=.seq its.toArray n }:=by
 obtain⟨z,its,n,r,e⟩:=I.hok l _ G;exact⟨z,its,n,r,r.length,e⟩
def Fd (h:n<=sizeLine):Builtin.List.listTooLong n=false:=by
 unfold Builtin.List.listTooLong;exact PK (by omega)
end
section
variable {X:Cx}
def BJ:V->List V->Hp->VK->Prop:=λx vs H Q=>∃l xs y,x=.ref l/\vs=[y]/\H l=some (.lst xs)/\xs.length<sizeLine/\Q .non (upd H l (.lst (xs++[y])))
def uw:Tz X "list.append" BJ:=by
 intro ah s σ H x vs v us Q I M O h;obtain⟨l,xs,y,rfl,rfl,G,hz,q⟩:=h;cases M
 obtain⟨u,rfl,ru⟩:=O.one;obtain⟨z,its,n,r,hl,e⟩:=I.lstM G;refine call_meets F.slot_list_append ⟨_,e,rfl⟩ F.entry_list_append (F.args_list_append_2 _ _) (PySem.list_append l its.toArray n u (by rw[vH];omega)) ⟨e,?_⟩;refine⟨.non,_,I.lset (its':=its++[u]) G e (by simp) (r.append (.cons ru .nil)) ?_,rfl,q⟩;rw[uZ,length_singleton];omega
def IG:V->List V->Hp->VK->Prop:=λx vs H Q=>∃l b xs zs,x=.ref l/\vs=[.ref b]/\H l=some (.lst xs)/\H b=some (.lst zs)/\xs.length+zs.length<=sizeLine/\Q .non (upd H l (.lst (xs++zs)))
def D3:Tz X "list.extend" IG:=by
 intro ah s σ H x vs v us Q I T U h;obtain⟨l,b,xs,zs,rfl,rfl,O,hB,hz,q⟩:=h;cases T
 obtain⟨u,rfl,ru⟩:=U.one;cases ru
 obtain⟨z,its,n,r,hl,e⟩:=I.lstM O;obtain⟨z2,G,n2,r2,PM,e2⟩:=I.lstM hB;have hsz:its.toArray.size+G.toArray.size<=sizeLine:=by rw[vH,vH];omega
 have M:¬(!its.toArray.isEmpty && Builtin.List.listTooLong (its.toArray.size+G.toArray.size))=true:=by
  rw[Fd hsz,Bool.and_false];exact uX
 refine call_meets F.slot_list_extend ⟨_,e,rfl⟩ F.entry_list_extend (F.args_list_extend_2 _ _)
  (AutoSeq1.list_extend_list_list_0 l its.toArray n b G.toArray n2 M (by rw[vH];omega) (by omega)) ⟨e,e2,?_⟩
 refine⟨.non,_,I.lset (its':=its++G) O e (by simp) (r.append r2) ?_,rfl,q⟩;rw[uZ];omega
end
end L2
namespace Att
open PySem PySem.W PySem.Calls PyProof.Rows
def pX:∀(ns:LI)(vs:LU),WellAll P h vs (ns.map WData.int)->IntsAre vs ns:=by
 intro ns;induction ns with
 |nil=>
  intro vs w;rw[map_nil]at w;cases w
  exact .nil
 |cons n ns G=>
  intro vs w;rw[uY]at w;cases w with
  |cons a b=>
   cases a
   exact .cons _ _ (G _ b)
def D4 {l:OpenLaw}{n:Nat}(hn:l.most=some n){P:Params}{h:Heap}{args:List WData}{vals:LU}
  (G:l.row.toRowW.claim.pre args=true) (T:WellAll P h vals args):
  ∃a vs ns,vals=[Value.ref a]/\args=[WData.list (ns.map WData.int)]/\h.get? a=some { cls:=.type "list",data:=.seq vs.toArray }/\IntsAre vs ns/\ns.length<=n:=by
 have U:WShape.hasAll [] args [.list .int]=true:=(pre_splitW G).1;have hc:l.pre.holds [] { args:=args }=true:=(pre_splitW G).2;obtain⟨d,r,rfl,h1,h2⟩:=hasAllW_cons U;obtain rfl:=hasAllW_nil h2;obtain⟨xs,rfl,h3⟩:=hasW_list h1;obtain⟨ns,rfl⟩:=items_int h3;have M:ns.length<=n:=by
  unfold OpenLaw.pre at hc;have h4:(WTm.not (.lt (.lit (.int (n:Int))) (.len (.arg 0)))).holds [] { args:=[.list (ns.map .int)] }=true:=by
   have h4:=(holds_andW hc).1;rw[hn]at h4;exact h4
  have h5:=condW_of h4 (w_not (w_lt w_lit (w_len_list (w_arg rfl))));rw[vI]at h5;refine Nat.le_of_not_lt λq=>?_;have q':(n:Int)<((ns.length:Nat):Int):=by omega
  first
   | (rw[Aq q']at h5;exact absurd h5 (by decide))
   | (simp at h5;omega)
 cases T with
 |cons w1 w2=>
  cases w2
  cases w1 with
  |list ho O=>exact⟨_,_,ns,rfl,rfl,ho,pX ns _ O,M⟩
def D5 (l:OpenLaw)(args:List WData):l.row.toRowW.claim.post args (.bool true) args=true :=
 postW_of (r:=l.row.toRowW) (X:=(true == true))
  (show WShape.has [] (.bool true) .bool=true by first|rfl|decide|simp[WShape.has,WShape.arms,WShape.armsAll])
  (show(WTm.eq .res (.lit (.bool true))).value [] { args:=args,res:=some (.bool true),after:=args }=some (.bool (true == true))from w_eq_bool (w_res rfl) w_lit) rfl
def ym {l:OpenLaw}{n:Nat}{q:Program}{O:LS}{XP:SV->Heap->Prop}{YP:World->Heap->Prop}{d:DefRec}
  (hn:l.most=some n) (Sl:d.params.defaults=[])
  (call:∀(w:World)(s₀ M:Shared)(mg mb:SV)(fa:Addr)(o:Obj)(pm cd doc:Value)(a:Addr)(vs:LU)(ns:LI),
   Ground q O [] XP w s₀ mg mb M.heap->YP w M.heap ->
   M.heap.get? fa=some o->o.data=.func (docDef d.name d.params d.body d.scope pm cd doc)->M.heap.CodeRec cd d.name->mg d.name=some (.ref fa) ->
   M.heap.get? a=some { cls:=.type "list",data:=.seq vs.toArray }->IntsAre vs ns->ns.length<=n->M.gens=#[] ->
   codeAny (model l.prog w) callerA (.call (.ref fa) ⟨[.ref a],[]⟩) (λr s'=>r=.ok (.ret (.bool true))/\OldK M.heap s'.heap/\s'.os=M.os/\AllBare s'.gens) M):
  WalkO q O XP YP l.row.toRowW d [] (λf vs=>PySem.call f vs):=by
 intro w s₀ M mg mb G Y fa o pm cd doc dV kV ho hd K4 hD hmg hg args vals as U hlay hrd hwl hlo;obtain rfl:dV=.none:=Dflts.none hD Sl;obtain rfl:kV=.none:=Dflts.noKw hD;obtain⟨a,vs,ns,rfl,rfl,Nu,T,lu⟩:=D4 hn U hwl;refine enter_call (codeAny_mono (call w s₀ M mg mb fa o pm cd doc a vs ns G Y ho (fd_plain hd) K4 hmg Nu T lu hg) λr s' hq=>?_);obtain⟨rfl,h2,h3,h4⟩:=hq;exact⟨.inl ⟨.bool true,.bool true,[],rfl,λ_=>rfl,.bool true,D5 l _,λ_=>⟨List.Pairwise.nil,λ_ hm=>(nomatch hm)⟩⟩,h2,h3,h4⟩
section
variable {prog:Program}{w:World}{A:Around}{E:QV}{s:Shared}{K:Frag}
end
end Att
namespace L2
open PySem PySem.Spec PyProof.Rows
theorem jx:∀ {vs:LU}{ns:LI},IntsAre vs ns->b7 (ns.map V.int) vs
 |_,_,.nil=>.nil
 |_,_,.cons n t h=>.cons ⟨t,rfl⟩ (jx h)
noncomputable def dN (s:Stmt):Arguments:=match s with
 |.FunctionDef _ a _ _ _ _ _ _ _ _=>a
 |_=>{ posonlyargs:=[],args:=[],vararg:=none,kwonlyargs:=[],kw_defaults:=[],kwarg:=none,defaults:=[] }
noncomputable def ca (s:Stmt):List Stmt:=match s with
 |.FunctionDef _ _ b _ _ _ _ _ _ _=>b
 |_=>[]
noncomputable def aL (s:Stmt):Scope:=match s with
 |.FunctionDef _ _ _ _ _ _ sc _ _ _=>sc
 |_=>{ kind:=.function,names:=[],isGenerator:=false,isCoroutine:=false }
abbrev yc:KO:=λ_ _ _ _ _ _=>False
abbrev E0:XK:=λ_ _ _=>False
def KP:A7 yc X E0:=λ_ _ _ _ _ _ _ h=>h.elim
structure Nv (K:Frag)(x qual:Str)(st:Stmt)(f:Addr)(fd:FuncData):Prop where
 ex:∃(oc:Value)(od:Option Addr)(kV doc pm:Value)(an:Option Addr)(cV ct:Value)(lY:Array (Option Value)),
  fd=fnOf x qual (dN st) (ca st) (aL st) .none kV doc pm an cV ct/\K.lookup f=some ⟨oc,od,.func fd,lY⟩/\PySem.W.codeIn K cV qual=true
 kp:PySem.W.keepIn K (.ref f)=true
section
variable {P:Program}{w:World}{K:Frag}{mg:SV}{base:Heap}
def Nv.ok {x qual:Str}{st:Stmt}{f:Addr}{fd:FuncData}{N ps:LS}{k:Nat}{sp:Sp}(F:Nv K x qual st f fd)(S:FnScope N ps (aL st))(len:∀vs H Q E,sp vs H Q E->vs.length=ps.length)
  (G:∀(cV:Value)(A:Around)(outer:List Env)(s:Shared)(H:Hp)(vs:List V)(Q:VK)(E:XK),eJ k (A.deeper (envOfC qual (aL st) s.heap.objs.size f cV))->sp vs H Q E ->
   ∃t,tU (ot yc P w K mg base N qual (aL st) f cV A outer s H E).nox (ca st) t/\t { nx:=λ_ H'=>Q .non H',rt:=Q } (jY N vs) H):tR P w K mg base yc (k+1) f fd ps sp:=by
 obtain⟨oc,od,kV,doc,pm,an,cV,ct,lY,rfl,T,M⟩:=F.ex;refine ES T M S len λA outer s H vs Q E U O=>?_;obtain⟨t,h,q⟩:=G cV A outer s H vs Q E U O;exact⟨t,h.nox,q⟩
def Nv.binds {x qual:Str}{st:Stmt}{f:Addr}{fd:FuncData}{ps:LS}(F:Nv K x qual st f fd)
  (h:∀(kV doc pm:Value)(an:Option Addr)(cV ct:Value)(us:LU),us.length=ps.length->bindArgs (fnOf x qual (dN st) (ca st) (aL st) .none kV doc pm an cV ct) ⟨us,[]⟩=pure (ps.zip us)):pe K fd ps []:=by
 obtain⟨oc,od,kV,doc,pm,an,cV,ct,lY,rfl,M,G⟩:=F.ex;exact .all (h kV doc pm an cV ct)
def Mi {x qual:Str}{st:Stmt}{f:Addr}{oc:Value}{od an:Option Addr}{lY:Array (Option Value)}{kV doc pm cV ct:Value}(l:K.lookup f=some ⟨oc,od,.func (fnOf x qual (dN st) (ca st) (aL st) .none kV doc pm an cV ct),lY⟩)
  (c:PySem.W.codeIn K cV qual=true) (k:PySem.W.keepIn K (.ref f)=true):Nv K x qual st f (fnOf x qual (dN st) (ca st) (aL st) .none kV doc pm an cV ct):=⟨⟨oc,od,kV,doc,pm,an,cV,ct,lY,rfl,l,c⟩,k⟩
end
def aZ (H H':Hp):Prop:=∀b o,H b=some o->H' b=some o
def aZ.refl (H:Hp):aZ H H:=λ_ _ h=>h
def aZ.trans (a:aZ H H1)(b:aZ H1 H2):aZ H H2:=λc o h=>b c o (a c o h)
def aZ.free (e:aZ H H')(h:H' l=Option.none):H l=Option.none:=by
 cases q:H l with
 |none=>rfl
 |some o=>
  rw[e l o q]at h;cases h
def aZ.seq {K:Frag}{H H':Hp}{a:Addr}{xs:List V}(e:aZ H H')(h:gT K H a xs):gT K H' a xs:=by
 rcases h with (h|⟨o,h⟩)|h
 ·exact .inl (.inl (e _ _ h))
 ·exact .inl (.inr ⟨o,e _ _ h⟩)
 ·exact .inr h
section
variable {κ:Type}[DecidableEq κ]
noncomputable def ko (aM:List (κ×V))(k:κ):Option V:=(aM.find? λkv=>decide (kv.1=k)).map (·.2)
def mG (aM:List (κ×V))(k:κ)(v:V):List (κ×V) :=
 if(aM.any λkv=>decide (kv.1=k))=true then aM.map (λkv=>if kv.1=k then (kv.1,v)else kv)else aM++[(k,v)]
def mH {p:κ×V}{r:List (κ×V)}{k:κ}(e:p.1=k):ko (p::r) k=some p.2:=by simp[ko,find?_cons,e]
def mI {p:κ×V}{r:List (κ×V)}{k:κ}(e:¬p.1=k):ko (p::r) k=ko r k:=by simp[ko,find?_cons,e]
theorem yn (k:κ):∀aM:List (κ×V),(aM.any λkv=>decide (kv.1=k))=(ko aM k).isSome
 |[]=>rfl
 |p::r=>by
  rw[any_cons];by_cases e:p.1=k
  ·simp only[mH e,Aq e,Bool.true_or,Option.isSome_some]
  ·rw[mI e,PK e,Bool.false_or];exact yn k r
def kq (aM:List (κ×V))(k:κ)(v:V):(mG aM k v).length<=aM.length+1:=by
 unfold mG;split
 ·rw[vI];omega
 ·rw[uZ,vE,length_nil];omega
def pW.isSome_eq (r:pW o u):o.isSome=u.isSome:=by
 cases o with
 |none=>cases u with
  |none=>rfl
  |some _=>exact(show False from r).elim
 |some _=>cases u with
  |none=>exact(show False from r).elim
  |some _=>rfl
def pW.getD (r:pW o u)(G:be d d'):be (o.getD d) (u.getD d'):=by
 cases o with
 |none=>cases u with
  |none=>exact G
  |some _=>exact(show False from r).elim
 |some _=>cases u with
  |none=>exact(show False from r).elim
  |some _=>exact r
def KV.val {aM:List (κ×V)}{vs:List (κ×Value)}(r:KV aM vs)(k:κ):pW (ko aM k) (valueAt vs k):=by
 unfold KV at r;induction r with
 |nil=>exact True.intro
 |@cons p q ps G h t O=>
  obtain⟨h1,h2⟩:=h;by_cases e:p.1=k
  ·have M:q.1=k:=h1.symm.trans e;have b:valueAt (q::G) k=some q.2:=by simp[valueAt,find?_cons,M]
   rw[mH e,b];exact h2
  ·have M:¬q.1=k:=λz=>e (h1.trans z);have b:valueAt (q::G) k=valueAt G k:=by simp[valueAt,find?_cons,M]
   rw[mI e,b];exact O
def KV.any (r:KV aM vs)(k:κ):(aM.any λkv=>decide (kv.1=k))=vs.any λkv=>decide (kv.1=k):=by
 unfold KV at r;induction r with
 |nil=>rfl
 |cons h t G=>rw[any_cons,any_cons,G,h.1]
def KV.repl (r:KV aM vs)(k:κ)(G:be y u):
  KV (aM.map λkv=>if kv.1=k then (kv.1,y)else kv) (vs.map λkv=>if kv.1=k then (kv.1,u)else kv):=by
 unfold KV at r ⊢;induction r with
 |nil=>exact .nil
 |@cons p q ps O h t M=>
  rw[uY,uY];refine .cons ?_ M;obtain⟨h1,h2⟩:=h;by_cases e:p.1=k
  ·rw[if_pos e,if_pos (h1.symm.trans e)];exact⟨h1,G⟩
  ·rw[if_neg e,if_neg (λz=>e (h1.trans z))];exact⟨h1,h2⟩
def KV.put (r:KV aM vs)(k:κ)(G:be y u):KV (mG aM k y) (stored vs k u):=by
 unfold mG stored;rw[r.any k];by_cases e:(vs.any λkv=>decide (kv.1=k))=true
 ·rw[if_pos e,if_pos e];exact r.repl k G
 ·rw[if_neg e,if_neg e];exact Paired.snoc r ⟨rfl,G⟩
def KV.length (r:KV aM vs):aM.length=vs.length:=Paired.length r
end
def yo (r:be (kV k) u):(cu P w).is k u=true:=by
 cases k with
 |inl i=>obtain⟨t,e⟩:=(show ∃t,u=Value.int i t from r);subst e;exact ye P w i t
 |inr x=>obtain⟨t,e⟩:=(show ∃t,u=Value.str x t from r);subst e;exact yf P w x t
theorem ux:∀ {ks:List eK}{us:LU},b7 (ks.map kV) us->ItemsAre (cu P w) ks us
 |[],_,r=>by rw[map_nil]at r;cases r;exact .nil
 |k::ks,_,r=>by
  rw[uY]at r;cases r with
  |cons h t=>exact .cons (yo h) (ux t)
abbrev KT (H:Hp):List (List eK×V)->List (List eK×Addr×Value)->Prop:=Paired λp q=>p.1=q.1/\H q.2.1=some (.tup (p.1.map kV))/\be p.2 q.2.2
def KT.val {H:Hp}{aM:List (List eK×V)}{xs:List (List eK×Addr×Value)}(r:KT H aM xs)(k:List eK):pW (ko aM k) ((atKey xs k).map (·.2)):=by
 induction r with
 |nil=>exact True.intro
 |@cons p q ps G h t O=>
  obtain⟨h1,_,h2⟩:=h;by_cases e:p.1=k
  ·have M:q.1=k:=h1.symm.trans e;have b:atKey (q::G) k=some q.2:=by simp[atKey,find?_cons,M]
   rw[mH e,b];exact h2
  ·have M:¬q.1=k:=λz=>e (h1.trans z);have b:atKey (q::G) k=atKey G k:=by simp[atKey,find?_cons,M]
   rw[mI e,b];exact O
def KT.repl (r:KT H aM xs)(k:List eK)(G:be y u):
  KT H (aM.map λkv=>if kv.1=k then (kv.1,y)else kv) (xs.map (putAt k u)):=by
 induction r with
 |nil=>exact .nil
 |@cons p q ps O h t M=>
  rw[uY,uY];refine .cons ?_ M;obtain⟨h1,h2,h3⟩:=h;unfold putAt;by_cases e:p.1=k
  ·rw[if_pos e,if_pos (h1.symm.trans e)];exact⟨h1,h2,G⟩
  ·rw[if_neg e,if_neg (λz=>e (h1.trans z))];exact⟨h1,h2,h3⟩
def KT.put (r:KT H aM xs)(k:List eK)(hb:H b=some (.tup (k.map kV)))(G:be y u):
  KT H (mG aM k y) (storedH xs k b u):=by
 have e:(aM.any λkv=>decide (kv.1=k))=(atKey xs k).isSome:=by
  rw[yn,(r.val k).isSome_eq,isSome_map]
 unfold mG storedH;rw[e];by_cases q:(atKey xs k).isSome=true
 ·rw[if_pos q,if_pos q];exact r.repl k G
 ·rw[if_neg q,if_neg q];exact Paired.snoc r ⟨rfl,hb,G⟩
def KT.keeps (r:KT H aM xs)(G:∀b ys,H b=some (.tup ys)->H' b=some (.tup ys)):KT H' aM xs :=
 Paired.mapP r λ_ _ z=>⟨z.1,G _ _ z.2.1,z.2.2⟩
section
variable {P:Program}{w:World}{H:Hp}{h:Heap}{a:Addr}
def KQ (ok:lJ P w H h)(e:Rd H a u):bR P w H h a u:=e.ok ok
def AD (ok:lJ P w H h)(e:H a=some (.dK aM ob)):h.get? a=some ob:=And.left (show bR P w H h a (.dK aM ob)from ok a _ e)
def BK (ok:lJ P w H h)(e:Rd H a (.dK aM ob)):aM.length<=sizeLine/\(a == sysModules)=false/\∃vs,KV aM vs/\h.DictOf (cu P w) a vs :=
 And.right (show bR P w H h a (.dK aM ob)from KQ ok e)
def qE (ok:lJ P w H h)(e:H a=some (.dK aM ob)):aM.length<=sizeLine/\(a == sysModules)=false/\∃vs,KV aM vs/\h.DictOf (cu P w) a vs:=BK ok (.inl e)
def wM (ok:lJ P w H h)(e:H a=some (.tup (ks.map kV))):(tupleKind (cu P w)).is h ks a:=by
 obtain⟨_,its,r,o,h1,h2,n,h3⟩:=(show bR P w H h a (.tup (ks.map kV))from ok a _ e);exact⟨o,its.toArray,n,h1,h2,h3,by simpa using ux r⟩
def BL (ok:lJ P w H h)(e:Rd H a (.dT aM)):aM.length<=sizeLine/\(a == sysModules)=false /\
  ∃xs,KT H aM xs/\h.DictOfH (tupleKind (cu P w)) a xs:=by
 obtain⟨z,y,xs,r,o,es,G,h1,h2,h3,h4,h5⟩:=(show bR P w H h a (.dT aM)from KQ ok e);refine⟨z,y,xs,r,o,es,G,h1,h2,h3,h4,λx hx=>?_,h5⟩;have all:∀ {l:List (List eK×V)}{m:List (List eK×Addr×Value)},KT H l m->∀x∈m,(tupleKind (cu P w)).is h x.1 x.2.1:=by
  intro l m q;induction q with
  |nil=>intro x hx;exact nomatch hx
  |@cons p q ps O hq t M=>
   intro x hx;rcases vP hx with e|hx
   ·subst e;exact wM ok (by rw[←hq.1];exact hq.2.1)
   ·exact M x hx
 exact all r x hx
def OE (ok:lJ P w H h)(e:H a=some (.dT aM)):aM.length<=sizeLine/\(a == sysModules)=false /\
  ∃xs,KT H aM xs/\h.DictOfH (tupleKind (cu P w)) a xs:=BL ok (.inl e)
end
def D6 (H:Hp)(a:Addr)(y:V)(r:Option V):Prop :=
 (∃aM k ob,Rd H a (.dK aM ob)/\y=kV k/\r=ko aM k)∨∃aM k b,Rd H a (.dT aM)/\y=.ref b/\H b=some (.tup (k.map kV))/\r=ko aM k
def OF (H:Hp)(a:Addr)(y v:V)(Q:Hp->Prop):Prop :=
 (∃aM k ob,H a=some (.dK aM ob)/\y=kV k/\aM.length<sizeLine/\∀G,Q (upd H a (.dK (mG aM k v) G))) ∨
 ∃aM k b,H a=some (.dT aM)/\y=.ref b/\H b=some (.tup (k.map kV))/\aM.length<sizeLine/\Q (upd H a (.dT (mG aM k v)))
def D6.t (e:H a=some (.dT aM))(G:H b=some (.tup (k.map kV))):D6 H a (.ref b) (ko aM k):=.inr ⟨aM,k,b,.inl e,rfl,G,rfl⟩
section
variable {X:Cx}{ah:AO}{σ:St}{H:Hp}{s:Shared}{a:Addr}{y v:V}{u r:Value}{o:Option V}{A:Around}{E:QV}
def Inv.big (I:Inv X ah σ H s):sysModules<s.heap.objs.size:=by
 have h:mainGlobals<s.heap.objs.size:=(I.mod.glob.keeps I.bk).lt;exact Nat.lt_trans (by decide) h
def Rt (hu:A.units+1<cLine)(I:Inv X ah σ H s)(g:D6 H a y o)(O:be y u)(h:∀s',Inv X ah σ H s'->Q (.bool o.isSome) s'):
  wpAny (model X.prog X.w) A (compareOp .In u (.ref a)) Q E s:=by
 rcases g with⟨aM,k,ob,e,M,l⟩|⟨aM,k,b,e,M,T,l⟩
 ·subst M;obtain⟨z,hd,vs,G,dd⟩:=BK I.hok e;refine wpAny_in_of (yo O) hd dd.mapOf ?_;rw[←(G.val k).isSome_eq,←l];exact h _ (I.tok _)
 ·subst M;cases (show u=Value.ref b from O)
  obtain⟨z,hd,xs,G,dd⟩:=BL I.hok e;refine wpAny_in_heap (tupleKind_room_in1 hu) (wM I.hok T) hd dd ?_;have q:=(G.val k).isSome_eq;rw[isSome_map]at q;rw[←q,←l];exact h _ (I.tok _)
def wN (I:Inv X ah σ H s)(G:Oh (H a))(hs:Heap.SameBut a s.heap h')(he:∃q,h'.get? a=some q)(new:bR X.prog X.w (upd H a ob) h' a ob):
  Inv X ah σ (upd H a ob) { s with heap:=h',toks:=t' } :=
 I.write (x:=a) (e:=a) G (.inl rfl) (λb q hb z=>(hs.2 b hb).trans z) he new
def Fe (z:aM.length<=sizeLine)(hd:(a == sysModules)=false)(G:KV aM vs)(dd:h'.DictOf (cu P w) a vs)(M:h'.get? a=some ob):
  bR P w H' h' a (.dK aM ob):=⟨M,z,hd,vs,G,dd⟩
def D7 (hu:A.units+1<cLine)(I:Inv X ah σ H s)(g:OF H a y v R)(U:be y u)(rv:be v r)(h:∀H' s',R H'->Inv X ah σ H' s'->Q () s'):
  wpAny (model X.prog X.w) A (setItem (.ref a) u r) Q E s:=by
 rcases g with⟨aM,k,ob,e,O,l,T⟩|⟨aM,k,b,e,O,eb,l,T⟩
 ·subst O;obtain⟨z,hd,vs,G,dd⟩:=qE I.hok e;have hz:vs.length<=sizeLine:=by rw[←G.length];exact z
  have hl:(mG aM k v).length<=sizeLine:=by have:=kq aM k v;omega
  refine wpAny_setItem_pairs (hsz:=hz) (yo U) dd λh' M hs=>?_;obtain⟨q,hq⟩:∃q,h'.get? a=some q:=let ⟨q,_,_,hq,_⟩:=M;⟨q,hq⟩;exact h _ _ (T q) (wN I (by rw[e];exact True.intro) hs ⟨q,hq⟩ (Fe hl hd (G.put k rv) M hq))
 ·subst O;cases (show u=Value.ref b from U)
  obtain⟨z,hd,xs,G,dd⟩:=OE I.hok e;have hz:xs.length<=sizeLine:=by rw[←Paired.length G];exact z
  have hl:(mG aM k v).length<=sizeLine:=by have:=kq aM k v;omega
  refine wpAny_setItem_heap (hsz:=hz) (tupleKind_room_in1 hu) (wM I.hok eb) dd λh' M hs=>h _ _ T ?_;obtain⟨q,es,ep,hq,h2,h3,h4,_,h5⟩:=M;refine wN I (by rw[e];exact True.intro) hs ⟨q,hq⟩ ⟨hl,hd,_,(G.put k eb rv).keeps λc ys ec=>?_,q,es,ep,hq,h2,h3,h4,h5⟩;rw[aG (Og ec e (λz=>nomatch z))];exact ec
end
def Ru (ty G:TE):TE:=λσ H Q=>ty σ H λy M=>G σ M λx H2=>∃a o,x=.ref a/\D6 H2 a y o/\Q (.bl o.isSome) H2
def BM (G ty M:TE):TS:=λD σ H=>M σ H λv O=>G σ O λx H2=>ty σ H2 λy T=>∃a,x=.ref a/\OF T a y v (D.nx σ)
section
variable {X:Cx}{o i e value:Expr}{pos HS Nr:Pos}{td ty tv:TE}
def Mj (hu:X.A.units+1<cLine)(hi:PE X i ty)(G:PE X o td):PC X .In i o (Ru ty td):=by
 intro ah s σ H Q I h;refine c7 (hi ah s σ H _ I h) λiv s1 ⟨y,M,O,T,U⟩=>c7 (G ah s1 σ M _ O U) λu s2 ⟨x,H2,I2,rx,a,ov,ex,g,q2⟩=>?_;subst ex;obtain rfl:u=Value.ref a:=rx;exact Rt hu I2 g T λs3 I3=>⟨.bl ov.isSome,H2,I3,rfl,q2⟩
def wO (hu:X.A.units+1<cLine)(G:PE X o td)(hi:PE X i ty)(hv:PE X value tv)(hs:swapsWith value (some (.Subscript o i HS)) pos.line X.env=pure false):
  PS X (.Assign [.Subscript o i HS] value pos) (BM td ty tv):=by
 intro ah s σ H D I h;refine wpAny_Assign_Subscript (c7 (hv ah s σ H _ I h) λr s1 ⟨v,M,O,T,U⟩=>c7 (G ah s1 σ M _ O U) λu s2 ⟨x,H2,I2,rx,q2⟩=>c7 (hi ah s2 σ H2 _ I2 q2) λiv s3 ⟨y,H3,I3,ry,a,ex,g⟩=>?_) hs;subst ex;obtain rfl:u=Value.ref a:=rx;exact D7 hu I3 g ry T λH4 s4 q3 I4=>⟨σ,H4,I4,q3⟩
end
def yp (h:Heap)(hb:sysModules<h.objs.size):bR P w H (h.push { cls:=.type "dict",data:=.dict #[] }) h.objs.size (.dK [] { cls:=.type "dict",data:=.dict #[] }) :=
 ⟨vY _ rfl,uN _,beq_eq_false_iff_ne.mpr (Ne.symm (vS hb)),[],.nil,Heap.DictOf.new h⟩
def Ff (h:Heap)(hb:sysModules<h.objs.size):bR P w H (h.push { cls:=.type "dict",data:=.dict #[] }) h.objs.size (.dT []) :=
 ⟨uN _,beq_eq_false_iff_ne.mpr (Ne.symm (vS hb)),[],.nil,_,#[],0,vY _ rfl,⟨rfl,rfl,rfl⟩,rfl,rfl,nodup_nil⟩
def Fg:TE:=λ_ H Q=>∀p ob,H p=none->Q (.ref p) (upd H p (.dK [] ob))
def Fh:TE:=λ_ H Q=>∀p,H p=none->Q (.ref p) (upd H p (.dT []))
section
variable {X:Cx}{pos:Pos}
def Fi:PE X (.Dict [] [] pos) Fg:=λah s σ H Q I h=>
 wpAny_Dict_empty ⟨.ref s.heap.objs.size,_,I.laid (a:=s.heap.objs.size) (o:=.dK [] { cls:=.type "dict",data:=.dict #[] }) (t':=s.toks) (λ_ _ q=>vZ _ q) (vT _) (yp s.heap I.big),rfl,h _ _ (I.hok.fresh (vT _))⟩
def Fj:PE X (.Dict [] [] pos) Fh:=λah s σ H Q I h=>
 wpAny_Dict_empty ⟨.ref s.heap.objs.size,_,I.laid (a:=s.heap.objs.size) (o:=.dT []) (t':=s.toks) (λ_ _ q=>vZ _ q) (vT _) (Ff s.heap I.big),rfl,h _ (I.hok.fresh (vT _))⟩
end
structure M1 (X:Cx)(o:Expr)(m:Str)(dM:Pos)(e:Expr)(cF:Pos):Prop where
 base:attributeBase o m X.env (eval o X.env)=eval o X.env
 few:((backTo cF (starEach [e] X.env)).all (λx=>!x.1) && (backToKw cF (keywordEach [] X.env)).all (λx=>x.1.isSome)
  && decide (([e]:List Expr).length+([]:List Keyword).length+(if([]:List Keyword).isEmpty then 0 else 1)<30))=true
 line:(dM.endLine == cF.line)=true
 trees:backTo cF (starEach [e] X.env)=[(false,eval e X.env)]
def T1 (H:Hp)(a:Addr):Prop:=(∃aM ob,Rd H a (.dK aM ob))∨∃aM,Rd H a (.dT aM)
def Mk (I:Inv X ah σ H s)(d:T1 H a):
  s.TypeIs (.ref a) "dict"/\(∀b,Value.ref a=.ref b->∃ob,s.heap.get? b=some ob/\ob.dict=none)/\(a == sysModules)=false:=by
 rcases d with⟨aM,G,e⟩|⟨aM,e⟩
 ·obtain⟨_,hd,vs,_,dd⟩:=BK I.hok e;refine⟨dd.typeIs,λb q=>?_,hd⟩;cases q
  obtain⟨ob,_,_,h1,h2,_⟩:=dd;exact⟨ob,h1,h2.2.1⟩
 ·obtain⟨_,hd,xs,_,dd⟩:=BL I.hok e;refine⟨dd.typeIs,λb q=>?_,hd⟩;cases q
  obtain⟨ob,_,_,h1,h2,_⟩:=dd;exact⟨ob,h1,h2.2.1⟩
section
variable {X:Cx}{ah:AO}{σ:St}{H:Hp}{s:Shared}{a:Addr}{y d:V}{u r:Value}{o:Option V}{A:Around}{E:QV}
def Ml (hu:A.units+1<cLine)(I:Inv X ah σ H s)(g:D6 H a y o)(O:be y u)(h:∀T s',Inv X ah σ H s'->be (o.getD .non) T->Q T s'):
  wpAny (model X.prog X.w) A (call (.builtin "dict.get") [.ref a,u]) Q E s:=by
 rcases g with⟨aM,k,ob,e,M,l⟩|⟨aM,k,b,e,M,U,l⟩
 ·subst M;obtain⟨z,hd,vs,G,dd⟩:=BK I.hok e;refine call_meetsIn slot_dict_get dd.typeIs entry_dict_get (PySem.F.args_dict_get_2 _ _) (meets_dict_get (cu X.prog X.w) a (yo O) hd) ⟨_,dd.mapOf,h _ _ (I.tok _) ?_⟩;rw[l];exact(G.val k).getD rfl
 ·subst M;cases (show u=Value.ref b from O)
  obtain⟨z,hd,xs,G,dd⟩:=BL I.hok e;refine call_meetsIn slot_dict_get dd.typeIs entry_dict_get (PySem.F.args_dict_get_2 _ _) (meetsH_dict_get (tupleKind (cu X.prog X.w)) a b hd) ⟨tupleKind_room_in1 hu,k,xs,wM I.hok U,dd,h _ _ (I.tok _) ?_⟩;rw[l];exact(G.val k).getD rfl
end
def Mm (M ty:TE):TE:=λσ H Q=>M σ H λx G=>∃a,x=.ref a/\T1 G a/\ty σ G λy H2=>∃o,D6 H2 a y o/\Q (o.getD .non) H2
section
variable {X:Cx}{o e f:Expr}{dM cF:Pos}{td ty tx:TE}
def yq (hu:X.A.units+1<cLine)(O:PE X o td)(he:PE X e ty)(m:M1 X o "get" dM e cF):PE X (.Call (.Attribute o "get" dM) [e] [] cF) (Mm td ty):=by
 intro ah s σ H Q I h;refine wpAny_Call_method m.base m.few m.line plainAttrs_dict slot_dict_get PySem.F.type_dict_get (c7 (O ah s σ H _ I h) λu s1 ⟨x,T,M,U,a,ex,d,q1⟩=>?_);subst ex;obtain rfl:u=Value.ref a:=U;obtain⟨t1,t2,_⟩:=Mk M d;refine⟨t1,t2,?_⟩;rw[m.trees];refine Calls.callWith_builtin rfl (Calls.evalArgs_plain (Calls.spliced_cons (c7 (he ah s1 σ T _ M q1) λiv s2 ⟨y,H2,I2,ry,ov,g,q2⟩=>Calls.spliced_nil ?_)));exact Ml hu I2 g ry λw' s3 I3 G=>⟨_,H2,I3,G,q2⟩
end
end L2
namespace DL
open PySem L2
set_option linter.all false
abbrev St:=L2.St
inductive D where
 |non|bl (b:Bool)|int (i:Int)|str (x:Str)|ty (n:String)|tup (ds:List D)|lst (ds:List D)
  |dk (ks:List eK) (vs:List D)|dt (ks:List (List eK)) (vs:List D)
abbrev LD:=List D
abbrev LV:=List V
abbrev LK:=List eK
abbrev OB:=Option (D×Bool)
mutual
inductive Is (K:Frag)(H:Hp):V->D->Prop where
 |non:Is K H .non .non
 |bl (b:Bool):Is K H (.bl b) (.bl b)
 |int (i:Int):Is K H (.int i) (.int i)
 |str (x:Str):Is K H (.str x) (.str x)
 |ty (n:String):Is K H (.ty n) (.ty n)
 |tup {a:Addr}{vs:List V}{ds:List D}(h:js K H a vs) (hs:IsL K H vs ds):Is K H (.ref a) (.tup ds)
 |lst {a:Addr}{vs:List V}{ds:List D}(h:gT K H a vs) (hs:IsL K H vs ds):Is K H (.ref a) (.lst ds)
 |dk {a:Addr}{ks:List eK}{vs:List V}{ds:List D}{ob:Obj}(h:H a=some (.dK (ks.zip vs) ob)) (hl:ks.length=vs.length) (hs:IsL K H vs ds):Is K H (.ref a) (.dk ks ds)
 |dt {a:Addr}{ks:List (List eK)}{vs:List V}{ds:List D}(h:H a=some (.dT (ks.zip vs))) (hl:ks.length=vs.length) (hs:IsL K H vs ds):Is K H (.ref a) (.dt ks ds)
inductive IsL (K:Frag)(H:Hp):List V->List D->Prop where
 |nil:IsL K H [] []
 |cons {v:V}{d:D}{vs:List V}{ds:List D}(h:Is K H v d) (hs:IsL K H vs ds):IsL K H (v::vs) (d::ds)
end
mutual
def bC:D->Bool
 |.lst _=>false
 |.dk _ _=>false
 |.dt _ _=>false
 |.tup ds=>bD ds
 |_=>true
def bD:LD->Bool
 |[]=>true
 |d::ds=>bC d && bD ds
end
@[simp] def NH:bC .non=true:=by simp only[bC]
@[simp] def OG (b:Bool):bC (.bl b)=true:=by simp only[bC]
@[simp] def NI (i:Int):bC (.int i)=true:=by simp only[bC]
@[simp] def NJ (x:Str):bC (.str x)=true:=by simp only[bC]
@[simp] def OH (x:String):bC (.ty x)=true:=by simp only[bC]
@[simp] def NK (ds:LD):bC (.tup ds)=bD ds:=by rw[bC]
@[simp] def NL (ds:LD):bC (.lst ds)=false:=by rw[bC]
@[simp] def OJ (ks:LK)(ds:LD):bC (.dk ks ds)=false:=by rw[bC]
@[simp] def OK (ks:List LK)(ds:LD):bC (.dt ks ds)=false:=by rw[bC]
@[simp] def Mn:bD []=true:=by rw[bD]
@[simp] def KR (d:D)(ds:LD):bD (d::ds)=(bC d && bD ds):=by rw[bD]
section
variable {K:Frag}{H H':Hp}
mutual
theorem Is.keep (G:∀a vs,js K H a vs->js K H' a vs)(M:∀a vs,gT K H a vs->gT K H' a vs)(O:∀a aM ob,H a=some (.dK aM ob)->H' a=some (.dK aM ob))(T:∀a aM,H a=some (.dT aM)->H' a=some (.dT aM)):∀ {v:V}{d:D},Is K H v d->Is K H' v d
 |_,_,.non=>.non
 |_,_,.bl b=>.bl b
 |_,_,.int i=>.int i
 |_,_,.str x=>.str x
 |_,_,.ty x=>.ty x
 |_,_,.tup h hs=>.tup (G _ _ h) (IsL.keep G M O T hs)
 |_,_,.lst h hs=>.lst (M _ _ h) (IsL.keep G M O T hs)
 |_,_,.dk h hl hs=>.dk (O _ _ _ h) hl (IsL.keep G M O T hs)
 |_,_,.dt h hl hs=>.dt (T _ _ h) hl (IsL.keep G M O T hs)
theorem IsL.keep (G:∀a vs,js K H a vs->js K H' a vs)(M:∀a vs,gT K H a vs->gT K H' a vs)(O:∀a aM ob,H a=some (.dK aM ob)->H' a=some (.dK aM ob))(T:∀a aM,H a=some (.dT aM)->H' a=some (.dT aM)):∀ {vs:LV}{ds:LD},IsL K H vs ds->IsL K H' vs ds
 |_,_,.nil=>.nil
 |_,_,.cons h hs=>.cons (Is.keep G M O T h) (IsL.keep G M O T hs)
end
mutual
theorem Is.keepT (G:∀a vs,js K H a vs->js K H' a vs):∀ {v:V}{d:D},Is K H v d->bC d=true->Is K H' v d
 |_,_,.non,_=>.non
 |_,_,.bl b,_=>.bl b
 |_,_,.int i,_=>.int i
 |_,_,.str x,_=>.str x
 |_,_,.ty x,_=>.ty x
 |_,_,.tup h hs,n=>.tup (G _ _ h) (IsL.keepT G hs (by simpa using n))
 |_,_,.lst h hs,n=>by simp at n
 |_,_,.dk h hl hs,n=>by simp at n
 |_,_,.dt h hl hs,n=>by simp at n
theorem IsL.keepT (G:∀a vs,js K H a vs->js K H' a vs):∀ {vs:LV}{ds:LD},IsL K H vs ds->bD ds=true->IsL K H' vs ds
 |_,_,.nil,_=>.nil
 |_,_,.cons h hs,n=>by
  simp at n;exact .cons (Is.keepT G h n.1) (IsL.keepT G hs n.2)
end
def b8 (e:aZ H H')(h:js K H a xs):js K H' a xs:=by
 rcases h with (h|⟨o,h⟩)|h
 ·exact .inl (.inl (e _ _ h))
 ·exact .inl (.inr ⟨o,e _ _ h⟩)
 ·exact .inr h
def Is.mono (h:Is K H v d)(e:aZ H H'):Is K H' v d:=h.keep (λ_ _=>b8 e) (λ_ _=>e.seq) (λ_ _ _ q=>e _ _ q) λ_ _ q=>e _ _ q
def IsL.mono (h:IsL K H v d)(e:aZ H H'):IsL K H' v d:=h.keep (λ_ _=>b8 e) (λ_ _=>e.seq) (λ_ _ _ q=>e _ _ q) λ_ _ q=>e _ _ q
theorem IsL.length:∀ {vs:LV}{ds:LD},IsL K H vs ds->vs.length=ds.length
 |_,_,.nil=>rfl
 |_,_,.cons _ t=>congrArg (· + 1) t.length
theorem IsL.get:∀ {vs:LV}{ds:LD}{i:Nat}{d:D},IsL K H vs ds->ds[i]? = some d->∃v,vs[i]? = some v/\Is K H v d
 |_,_,_,_,.nil,e=>by simp at e
 |_,_,0,_,.cons h _,e=>by simp at e;subst e;exact⟨_,rfl,h⟩
 |_,_,i+1,d,.cons _ t,e=>by
  obtain⟨u,h1,h2⟩:=t.get (i:=i) (d:=d) (by simpa using e);exact⟨u,by simpa using h1,h2⟩
theorem IsL.append:∀ {vs G:LV}{ds es:LD},IsL K H vs ds->IsL K H G es->IsL K H (vs++G) (ds++es)
 |_,_,_,_,.nil,s=>s
 |_,_,_,_,.cons r t,s=>.cons r (t.append s)
theorem IsL.take:∀ {vs:LV}{ds:LD}(n:Nat),IsL K H vs ds->IsL K H (vs.take n) (ds.take n)
 |_,_,0,_=>by simpa using IsL.nil
 |_,_,_+1,.nil=>.nil
 |_,_,n+1,.cons r t=>.cons r (t.take n)
theorem IsL.drop:∀ {vs:LV}{ds:LD}(n:Nat),IsL K H vs ds->IsL K H (vs.drop n) (ds.drop n)
 |_,_,0,r=>r
 |_,_,_+1,.nil=>.nil
 |_,_,n+1,.cons _ t=>t.drop n
theorem IsL.set (h:Is K H v d):∀ {vs:LV}{ds:LD}(i:Nat),IsL K H vs ds->IsL K H (vs.set i v) (ds.set i d)
 |_,_,_,.nil=>.nil
 |_,_,0,.cons _ t=>.cons h t
 |_,_,i+1,.cons r t=>.cons r (IsL.set h i t)
def IsL.flat {vs:LV}{ns:LI}(h:vs=ns.map V.int):IsL K H vs (ns.map D.int):=by
 subst h;induction ns with
 |nil=>exact .nil
 |cons n ns G=>exact .cons (.int n) G
end
structure Ext (B N H H':Hp):Prop where
 hh:aZ H H'
 bn:aZ B N
 nh:aZ N H'
 new:∀a o,N a=some o->B a=some o∨H a=none
def Ext.refl (h:aZ B H):Ext B B H H:=⟨.refl _,.refl _,h,λ_ _ e=>.inl e⟩
def Ext.trans (x:Ext B N H H1)(y:Ext N N2 H1 H2):Ext B N2 H H2 :=
 ⟨x.hh.trans y.hh,x.bn.trans y.bn,y.nh,λa o e=>(y.new a o e).elim (λq=>x.new a o q) λq=>.inr (x.hh.free q)⟩
def Ext.laid (h:aZ B H)(hp:H p=none):Ext B (upd B p o) H (upd H p o):=by
 have G:B p=none:=h.free hp;refine⟨λa u e=>?_,λa u e=>?_,λa u e=>?_,λa u e=>?_⟩
 ·rw[aG (λq=>by subst q;rw[hp]at e;cases e)];exact e
 ·rw[aG (λq=>by subst q;rw[G]at e;cases e)];exact e
 ·by_cases q:a=p
  ·subst q;rw[aB]at e ⊢;exact e
  ·rw[aG q]at e ⊢;exact h _ _ e
 ·by_cases q:a=p
  ·subst q;exact .inr hp
  ·rw[aG q]at e;exact .inl e
def Ext.grow (h:aZ B H)(hh:aZ H H'):Ext B B H H':=⟨hh,.refl _,h.trans hh,λ_ _ e=>.inl e⟩
abbrev Env:=List OB
abbrev FE:=Env->OB
abbrev FA:=Env->Option LD
abbrev FT:=Env->Option Bool
def NM (K:Frag)(H N:Hp)(v:V)(d:D):Prop:=∃(a:Addr)(vs:LV)(ds:LD),v=.ref a/\d=.lst ds/\H a=none/\N a=some (.lst vs)/\IsL K N vs ds
def NM.back (h:NM K H' N v d)(e:aZ H H'):NM K H N v d:=let ⟨a,vs,ds,q,y,z,r⟩:=h;⟨a,vs,ds,q,y,e.free z,r⟩
noncomputable def mJ:LS:=["in_order","has_seal","is_first_death","bases_by"]
noncomputable def qF (x:Str):Str:=x ++ ".<locals>." ++ "<lambda>"
def Tb (K:Frag)(B:Hp):Prop:=∀x∈mJ,∀c P,PySem.W.tabIn K x=some (c,P)->B P=some (.tbl (qF x))
def Tb.mono (h:Tb K B)(e:aZ B B'):Tb K B':=λx hx c P q=>e _ _ (h x hx c P q)
structure fO (K:Frag)(B:Hp)(σ:St)(ρ:Env):Prop where
 tb:Tb K B
 at':∀(i:Nat)(d:D)(b:Bool),ρ[i]? = some (some (d,b))->∃v,σ[i]? = some (some v)/\Is K B v d
def fO.mono (h:fO K B σ ρ)(e:aZ B B'):fO K B' σ ρ:=⟨h.tb.mono e,λi d b q=>let ⟨v,h1,h2⟩:=h.at' i d b q;⟨v,h1,h2.mono e⟩⟩
def Fin (K:Frag)(B H:Hp)(d:D)(b:Bool)(Q:VK):Prop:=∀(v:V)(H' N:Hp),Ext B N H H'->Is K N v d->(b=true->NM K H N v d)->Q v H'
def tD (K:Frag)(f:FE):TE:=λσ H Q=>∃(B:Hp)(ρ:Env)(d:D)(b:Bool),aZ B H/\fO K B σ ρ/\f ρ=some (d,b)/\Fin K B H d b Q
def AE (K:Frag)(f:FT):TT:=λσ H Q=>∃(B:Hp)(ρ:Env)(c:Bool),aZ B H/\fO K B σ ρ/\f ρ=some c/\∀H',aZ H H'->Q c H'
def NN (K:Frag)(f:FA):TA:=λσ H Q=>∃(B:Hp)(ρ:Env)(ds:LD),aZ B H/\fO K B σ ρ/\f ρ=some ds/\∀(vs:LV)(H' N:Hp),Ext B N H H'->IsL K N vs ds->Q vs H'
def rD (K:Frag)(op:D->D->OB):R2:=λx y H Q=>∃(B:Hp)(dx G d:D)(b:Bool),aZ B H/\Is K B x dx/\Is K B y G/\op dx G=some (d,b)/\Fin K B H d b Q
def Rv (K:Frag)(op:D->OB):V->Hp->VK->Prop:=λx H Q=>∃(B:Hp)(dx d:D)(b:Bool),aZ B H/\Is K B x dx/\op dx=some (d,b)/\Fin K B H d b Q
def EA (K:Frag)(op:LD->OB):LV->Hp->VK->Prop:=λxs H Q=>∃(B:Hp)(ds:LD)(d:D)(b:Bool),aZ B H/\IsL K B xs ds/\op ds=some (d,b)/\Fin K B H d b Q
def Fin.one (h:Fin K B H d false Q)(s:aZ B H)(i:Is K B v d):Q v H:=h v H B (.refl s) i (by simp)
def Fin.into (h:Fin K B H d b Q)(x:Ext B N H H1):Fin K N H1 d b Q:=λv H' N' y i G=>h v H' N' (x.trans y) i λe=>(G e).back x.hh
@[simp] noncomputable def fC (d:D):FE:=λ_=>some (d,false)
@[simp] noncomputable def am (i:Nat):FE:=λρ=>match ρ[i]? with|some (some (d,_))=>some (d,false)|_=>none
@[simp] noncomputable def f2 (op:D->D->OB)(fa G:FE):FE:=λρ=>(fa ρ).bind λx=>(G ρ).bind λy=>op x.1 y.1
@[simp] noncomputable def f1 (op:D->OB)(fa:FE):FE:=λρ=>(fa ρ).bind λx=>op x.1
@[simp] noncomputable def aj:FA:=λ_=>some []
@[simp] noncomputable def ag (fa:FE)(G:FA):FA:=λρ=>(fa ρ).bind λx=>(G ρ).bind λxs=>some (x.1::xs)
@[simp] noncomputable def fA (op:LD->OB)(fa:FA):FE:=λρ=>(fa ρ).bind op
def Mo (h:tD K (am i) σ H Q):∃v,σ[i]? = some (some v)/\Q v H:=by
 obtain⟨B,ρ,d,b,s,r,e,q⟩:=h;unfold am at e;split at e
 ·rename_i d' M G;cases e
  obtain⟨v,h1,h2⟩:=r.at' i _ _ G;exact⟨v,h1,q.one s h2⟩
 ·cases e
def IH (h:tD K (f2 op fa fb) σ H Q):tD K fa σ H λx O=>tD K fb σ O λy H2=>rD K op x y H2 Q:=by
 obtain⟨B,ρ,d,b,s,r,e,q⟩:=h;obtain⟨x,ex,e⟩:=oX e;obtain⟨y,T,e⟩:=oX e;refine⟨B,ρ,x.1,x.2,s,r,ex,λv O N G i1 _=>⟨N,ρ,y.1,y.2,G.nh,r.mono G.bn,T,λU H2 N2 M i2 _=>⟨N2,x.1,y.1,d,b,M.nh,i1.mono M.bn,i2,e,?_⟩⟩⟩;exact q.into (G.trans M)
def Rw (h:tD K (f1 op fa) σ H Q):tD K fa σ H λx G=>Rv K op x G Q:=by
 obtain⟨B,ρ,d,b,s,r,e,q⟩:=h;obtain⟨x,ex,e⟩:=oX e;exact⟨B,ρ,x.1,x.2,s,r,ex,λv G N M i1 _=>⟨N,x.1,d,b,M.nh,i1,e,q.into M⟩⟩
def II (h:tD K (fA op fa) σ H Q):NN K fa σ H λxs G=>EA K op xs G Q:=by
 obtain⟨B,ρ,d,b,s,r,e,q⟩:=h;obtain⟨x,ex,e⟩:=oX e;exact⟨B,ρ,x,s,r,ex,λv G N M i1=>⟨N,x,d,b,M.nh,i1,e,q.into M⟩⟩
def IJ (h:NN K aj σ H Q):Q [] H:=by
 obtain⟨B,ρ,ds,s,r,e,q⟩:=h;cases e
 exact q [] H B (.refl s) .nil
def Fk (h:NN K (ag fa fr) σ H Q):tD K fa σ H λx M=>NN K fr σ M λxs H2=>Q (x::xs) H2:=by
 obtain⟨B,ρ,ds,s,r,e,q⟩:=h;obtain⟨x,ex,e⟩:=oX e;obtain⟨y,T,e⟩:=oX e;cases e
 exact⟨B,ρ,x.1,x.2,s,r,ex,λv M N G i1 _=>⟨N,ρ,y,G.nh,r.mono G.bn,T,λvs H2 N2 O i2=>q _ H2 N2 (G.trans O) (.cons (i1.mono O.bn) i2)⟩⟩
@[simp] noncomputable def aT (f:FE):FT:=λρ=>match f ρ with|some (.bl c,_)=>some c|_=>none
@[simp] noncomputable def eU (f g:FT):FT:=λρ=>match f ρ with|some true=>g ρ|some false=>some false|none=>none
@[simp] noncomputable def dQ (f g:FT):FT:=λρ=>match f ρ with|some true=>some true|some false=>g ρ|none=>none
@[simp] noncomputable def bU (f:FT):FT:=λρ=>(f ρ).map (!·)
open Classical in
noncomputable def dW (H:Hp)(P:Addr->Prop):Hp:=λa=>if P a then none else H a
def cY (h:¬P a):dW H P a=H a:=by unfold dW;rw[if_neg h]
def AF (h:P a):dW H P a=none:=by unfold dW;rw[if_pos h]
def qG (h:dW H P a=some o):¬P a/\H a=some o:=by
 by_cases q:P a
 ·rw[AF q]at h;cases h
 ·rw[cY q]at h;exact⟨q,h⟩
def bW:aZ (dW H P) H:=λ_ _ e=>(qG e).2
def eV (e:∀a o,H a=some o->¬P a->H' a=some o/\¬P' a):aZ (dW H P) (dW H' P'):=λa o q=>by
 obtain⟨h1,h2⟩:=qG q;obtain⟨h3,h4⟩:=e a o h2 h1;rw[cY h4];exact h3
noncomputable def join (N N':Hp):Hp:=λa=>match N a with|some o=>some o|none=>N' a
def fu:aZ N (join N N'):=λa o e=>by unfold join;rw[e]
def eG (e:N a=none):join N N' a=N' a:=by unfold join;rw[e]
def own (σ:St)(ρ:Env)(a:Addr):Prop:=∃(i:Nat)(d:D),ρ[i]? = some (some (d,true))/\σ[i]? = some (some (V.ref a))
inductive Bx (K:Frag)(C:Hp):HO->D->Prop where
 |lst {vs:List V}{ds:List D}(h:IsL K C vs ds):Bx K C (.lst vs) (.lst ds)
 |dk {ks:List eK}{vs:List V}{ds:List D}(hl:ks.length=vs.length) (h:IsL K C vs ds) {ob:Obj}:Bx K C (.dK (ks.zip vs) ob) (.dk ks ds)
 |dt {ks:List (List eK)}{vs:List V}{ds:List D}(hl:ks.length=vs.length) (h:IsL K C vs ds):Bx K C (.dT (ks.zip vs)) (.dt ks ds)
def Bx.mono (h:Bx K C o d)(e:aZ C C'):Bx K C' o d:=by
 cases h with
 |lst h=>exact .lst (h.mono e)
 |dk hl h=>exact .dk hl (h.mono e)
 |dt hl h=>exact .dt hl (h.mono e)
def Bx.is (h:Bx K C o d)(e:C a=some o):Is K C (.ref a) d:=by
 cases h with
 |lst h=>exact .lst (gT.of e) h
 |dk hl h=>exact .dk e hl h
 |dt hl h=>exact .dt e hl h
structure dU (K:Frag)(B0 H0 N H:Hp)(σ:St)(ρ:Env):Prop where
 bh:aZ B0 H0
 tb:Tb K B0
 ext:Ext B0 N H0 H
 len:ρ.length=σ.length
 sh:∀(i:Nat)(d:D),ρ[i]? = some (some (d,false))->∃v,σ[i]? = some (some v)/\Is K (dW N (own σ ρ)) v d
 ow:∀(i:Nat)(d:D),ρ[i]? = some (some (d,true))->∃(a:Addr)(o:HO),σ[i]? = some (some (V.ref a))/\N a=some o/\H0 a=none/\Bx K (dW N (own σ ρ)) o d
 inj:∀(i j:Nat)(a:Addr)(d e:D),ρ[i]? = some (some (d,true))->ρ[j]? = some (some (e,true))->σ[i]? = some (some (V.ref a))->σ[j]? = some (some (V.ref a))->i=j
def wP (K:Frag)(B0 H0 H:Hp)(σ:St)(ρ:Env):Prop:=∃N,dU K B0 H0 N H σ ρ
section
variable {K:Frag}{B0 H0 N H H':Hp}{σ:St}{ρ:Env}
def dU.owL (s:dU K B0 H0 N H σ ρ)(i:Nat)(d:D)(q:ρ[i]? = some (some (.lst es,true)))(hd:d=.lst es:=by rfl):∃(a:Addr)(vs:LV)(ds:LD),d=.lst ds/\σ[i]? = some (some (V.ref a))/\N a=some (.lst vs)/\H0 a=none/\IsL K (dW N (own σ ρ)) vs ds:=by
 obtain⟨a,o,h1,h2,h3,h4⟩:=s.ow i _ q;cases h4 with
 |lst h4=>exact⟨a,_,es,hd,h1,h2,h3,h4⟩
def boxed:HO->Prop
 |.lst _|.dK _ _|.dT _=>True
 |_=>False
def Bx.boxed (h:Bx K C o d):boxed o:=by cases h<;>exact trivial
def dU.owned (s:dU K B0 H0 N H σ ρ)(h:own σ ρ a):∃o,(N a=some o/\boxed o)/\H0 a=none:=by
 obtain⟨i,d,h1,h2⟩:=h;obtain⟨M,o,h3,h4,h5,G⟩:=s.ow i d h1;rw[h2]at h3;cases h3;exact⟨o,⟨h4,G.boxed⟩,h5⟩
def dU.rep (s:dU K B0 H0 N H σ ρ):fO K N σ ρ:=⟨s.tb.mono s.ext.bn,λi d b q=>by
 cases b with
 |false=>obtain⟨v,h1,h2⟩:=s.sh i d q;exact⟨v,h1,h2.mono bW⟩
 |true=>
  obtain⟨a,o,h2,h3,_,h4⟩:=s.ow i d q;exact⟨_,h2,(h4.mono bW).is h3⟩⟩
noncomputable def gU (ρ:Env):Env:=ρ.map λx=>match x with|some (d,false)=>some (d,false)|_=>none
def Fl {i:Nat}{d:D}{b:Bool}(h:(gU ρ)[i]? = some (some (d,b))):b=false/\ρ[i]? = some (some (d,false)):=by
 unfold gU at h;rw[vA]at h;cases e:ρ[i]? with
 |none=>rw[e]at h;cases h
 |some x=>
  rw[e]at h;match x,h with
  |some (d',false),h=>cases h;exact⟨rfl,rfl⟩
  |some (d',true),h=>cases h
  |none,h=>cases h
def dU.tbC (s:dU K B0 H0 N H σ ρ):Tb K (dW N (own σ ρ)):=λx hx c P q=>by
 have z:=s.tb.mono s.ext.bn x hx c P q;rw[cY]
 ·exact z
 ·intro y;obtain⟨o,⟨y,G⟩,_⟩:=s.owned y;rw[z]at y;cases y;exact G
def dU.repH (s:dU K B0 H0 N H σ ρ):fO K (dW N (own σ ρ)) σ (gU ρ):=⟨s.tbC,λi d b q=>by
 obtain⟨rfl,G⟩:=Fl q;exact s.sh i d G⟩
def dU.grow (s:dU K B0 H0 N H σ ρ)(x:Ext N N' H H'):dU K B0 H0 N' H' σ ρ:=by
 have c:aZ (dW N (own σ ρ)) (dW N' (own σ ρ)):=eV λa o e q=>⟨x.bn a o e,q⟩;refine⟨s.bh,s.tb,s.ext.trans x,s.len,λi d q=>?_,λi d q=>?_,s.inj⟩
 ·obtain⟨v,h1,h2⟩:=s.sh i d q;exact⟨v,h1,h2.mono c⟩
 ·obtain⟨a,o,h2,h3,h4,h5⟩:=s.ow i d q;exact⟨a,o,h2,x.bn _ _ h3,h4,h5.mono c⟩
def dU.growH (s:dU K B0 H0 N H σ ρ)(x:Ext (dW N (own σ ρ)) N' H H'):dU K B0 H0 (join N N') H' σ ρ/\aZ N' (dW (join N N') (own σ ρ)):=by
 have M:Ext N (join N N') H H':=by
  refine⟨x.hh,fu,λa o e=>?_,λa o e=>?_⟩
  ·cases q:N a with
   |some u=>
    have:join N N' a=some u:=fu _ _ q;rw[this]at e;cases e;exact x.hh _ _ (s.ext.nh _ _ q)
   |none=>rw[eG q]at e;exact x.nh _ _ e
  ·cases q:N a with
   |some u=>
    have:join N N' a=some u:=fu _ _ q;rw[this]at e;cases e;exact .inl rfl
   |none=>
    rw[eG q]at e;rcases x.new a o e with z|z
    ·have:=bW _ _ z;rw[q]at this;cases this
    ·exact .inr z
 refine⟨s.grow M,λa o e=>?_⟩;rcases x.new a o e with z|z
 ·obtain⟨O,T⟩:=qG z;rw[cY O];exact fu _ _ T
 ·have G:N a=none:=s.ext.nh.free z;have:¬own σ ρ a:=λq=>by obtain⟨vs,⟨q,_⟩,_⟩:=s.owned q;rw[G]at q;cases q
  rw[cY this,eG G];exact e
noncomputable def unown (ρ:Env):Env:=ρ.map λx=>x.map λy=>(y.1,false)
def lw {i:Nat}{d:D}{b:Bool}(h:(unown ρ)[i]? = some (some (d,b))):b=false/\∃c,ρ[i]? = some (some (d,c)):=by
 unfold unown at h;rw[vA]at h;cases e:ρ[i]? with
 |none=>rw[e]at h;cases h
 |some x=>
  rw[e]at h;match x,h with
  |some (d',c),h=>cases h;exact⟨rfl,c,rfl⟩
  |none,h=>cases h
def uy {a:Addr}:¬own σ (unown ρ) a:=λ⟨i,d,h,_⟩=>by
 obtain⟨z,_⟩:=lw h;cases z
def dU.unown (s:dU K B0 H0 N H σ ρ):dU K B0 H0 N H σ (unown ρ):=by
 refine⟨s.bh,s.tb,s.ext,by unfold DL.unown;rw[vI];exact s.len,λi d q=>?_,λi d q=>?_,λi j a d e q=>?_⟩
 ·obtain⟨_,c,q⟩:=lw q;obtain⟨v,h1,h2⟩:=s.rep.at' i d c q;exact⟨v,h1,h2.mono λa o e=>by rw[cY uy];exact e⟩
 ·obtain⟨z,_⟩:=lw q;cases z
 ·obtain⟨z,_⟩:=lw q;cases z
def cm {α:Type}{l:List α}{i j:Nat}{x y:α}(h:(l.set i x)[j]? = some y):(i=j/\x=y)∨(i≠j/\l[j]? = some y):=by
 by_cases e:i=j
 ·subst e;rw[List.getElem?_set]at h;split at h
  ·split at h
   ·exact .inl ⟨rfl,vK h⟩
   ·cases h
  ·contradiction
 ·rw[vB e]at h;exact .inr ⟨e,h⟩
def uz {α G:Type}{l:List α}{m:List G}{i:Nat}{x y:α}(h:(l.set i x)[i]? = some y)(e:l.length=m.length):i<m.length:=by
 obtain⟨h,_⟩:=vV h;rw[length_set]at h;omega
def wQ {i:Nat}{v:V}{x:OB}{a:Addr}(h:own (σ.set i (some v)) (ρ.set i x) a):(v=.ref a/\∃d,x=some (d,true))∨∃j,j≠i/\∃d,ρ[j]? = some (some (d,true))/\σ[j]? = some (some (V.ref a)):=by
 obtain⟨j,d,h1,h2⟩:=h;rcases cm h1 with⟨e,q⟩|⟨e,q⟩
 ·rcases cm h2 with⟨e2,G⟩|⟨e2,G⟩
  ·cases G;exact .inl ⟨rfl,d,q⟩
  ·exact absurd e e2
 ·rcases cm h2 with⟨e2,G⟩|⟨e2,G⟩
  ·exact absurd e2 e
  ·exact .inr ⟨j,λz=>e z.symm,d,q,G⟩
def dU.bind (s:dU K B0 H0 N H σ ρ){i:Nat}{v:V}{d:D}(h:Is K (dW N (own σ ρ)) v d):dU K B0 H0 N H (σ.set i (some v)) (ρ.set i (some (d,false))):=by
 have o:∀a,own (σ.set i (some v)) (ρ.set i (some (d,false))) a->own σ ρ a:=λa q=>by
  rcases wQ q with⟨_,d',p⟩|⟨j,_,d',O,T⟩
  ·cases p
  ·exact⟨j,d',O,T⟩
 have c:aZ (dW N (own σ ρ)) (dW N (own (σ.set i (some v)) (ρ.set i (some (d,false))))):=eV λa u e q=>⟨e,λz=>q (o a z)⟩;refine⟨s.bh,s.tb,s.ext,by simp[s.len],λj e q=>?_,λj e q=>?_,λj k a e f q U h1 h2=>?_⟩
 ·rcases cm q with⟨rfl,p⟩|⟨ne,p⟩
  ·cases p
   have hi:=uz q s.len;exact⟨v,by simp[hi],h.mono c⟩
  ·obtain⟨w,h1,h2⟩:=s.sh j e p;exact⟨w,by rw[vB ne];exact h1,h2.mono c⟩
 ·rcases cm q with⟨rfl,p⟩|⟨ne,p⟩
  ·cases p
  ·obtain⟨a,o,h1,h2,h3,h4⟩:=s.ow j e p;exact⟨a,o,by rw[vB ne];exact h1,h2,h3,h4.mono c⟩
 ·rcases cm q with⟨rfl,p⟩|⟨ne,p⟩
  ·cases p
  ·rcases cm U with⟨rfl,G⟩|⟨M,G⟩
   ·cases G
   ·rw[vB ne]at h1;rw[vB M]at h2;exact s.inj j k a e f p G h1 h2
def dU.bindOwn (s:dU K B0 H0 N H σ ρ){i:Nat}{a:Addr}{ob:HO}{dd:D}(hN:N a=some ob)(h0:H0 a=none)(M:∀(j:Nat)(d:D),ρ[j]? = some (some (d,true))->σ[j]? ≠ some (some (V.ref a)))
  (U:∀(j:Nat)(d:D),j≠i->ρ[j]? = some (some (d,false))->∃v,σ[j]? = some (some v)/\Is K (dW N (λb=>own σ ρ b∨b=a)) v d) (Wh:∀(j:Nat)(d:D),j≠i->ρ[j]? = some (some (d,true))->∃(O:Addr)(o:HO),σ[j]? = some (some (V.ref O))/\N O=some o/\Bx K (dW N (λb=>own σ ρ b∨b=a)) o d)
  (Sk:Bx K (dW N (λb=>own σ ρ b∨b=a)) ob dd):dU K B0 H0 N H (σ.set i (some (.ref a))) (ρ.set i (some (dd,true))):=by
 have o:∀b,own (σ.set i (some (V.ref a))) (ρ.set i (some (dd,true))) b->own σ ρ b∨b=a:=λb q=>by
  rcases wQ q with⟨p,_⟩|⟨j,_,d',q1,q2⟩
  ·cases p;exact .inr rfl
  ·exact .inl ⟨j,d',q1,q2⟩
 have c:aZ (dW N (λb=>own σ ρ b∨b=a)) (dW N (own (σ.set i (some (V.ref a))) (ρ.set i (some (dd,true))))):=eV λb u e q=>⟨e,λz=>q (o b z)⟩;refine⟨s.bh,s.tb,s.ext,by simp[s.len],λj e q=>?_,λj e q=>?_,λj k b e f q q' h1 h2=>?_⟩
 ·rcases cm q with⟨rfl,p⟩|⟨ne,p⟩
  ·cases p
  ·obtain⟨w,h1,h2⟩:=U j e (Ne.symm ne) p;exact⟨w,by rw[vB ne];exact h1,h2.mono c⟩
 ·rcases cm q with⟨rfl,p⟩|⟨ne,p⟩
  ·cases p
   have hi:=uz q s.len;exact⟨a,ob,by simp[hi],hN,h0,Sk.mono c⟩
  ·obtain⟨O,o',h1,h2,h4⟩:=Wh j e (Ne.symm ne) p;have h3:H0 O=none:=by
    obtain⟨a2,_,k1,_,k3,_⟩:=s.ow j e p;rw[h1]at k1;cases k1;exact k3
   exact⟨O,o',by rw[vB ne];exact h1,h2,h3,h4.mono c⟩
 ·rcases cm q with⟨rfl,p⟩|⟨ne,p⟩
  ·rcases cm q' with⟨rfl,T⟩|⟨G,T⟩
   ·rfl
   ·rw[vB G]at h2;have Wi:V.ref a=V.ref b:=by
     rcases cm h1 with⟨_,z⟩|⟨z,_⟩
     ·exact vK z
     ·exact absurd rfl z
    cases Wi
    exact absurd h2 (M k f T)
  ·rcases cm q' with⟨rfl,T⟩|⟨G,T⟩
   ·rw[vB ne]at h1;have Sm:V.ref a=V.ref b:=by
     rcases cm h2 with⟨_,z⟩|⟨z,_⟩
     ·exact vK z
     ·exact absurd rfl z
    cases Sm
    exact absurd h1 (M j e p)
   ·rw[vB ne]at h1;rw[vB G]at h2;exact s.inj j k b e f p T h1 h2
end
inductive Res where
 |nx (ρ:Env)|rt (d:D) (b:Bool)|bk (ρ:Env)|ct (ρ:Env)
abbrev FS:=Env->Option Res
def OL (K:Frag)(B0 H0:Hp)(E:Ends):Res->Prop
 |.nx ρ=>∀σ H,wP K B0 H0 H σ ρ->E.nx σ H
 |.rt d b=>∀v H N,Ext B0 N H0 H->Is K N v d->(b=true->NM K H0 N v d)->E.rt v H
 |.bk ρ=>∀σ H,wP K B0 H0 H σ ρ->E.bk σ H
 |.ct ρ=>∀σ H,wP K B0 H0 H σ ρ->E.ct σ H
def mK (K:Frag)(g:FS):TS:=λE σ H=>∃(B0 H0:Hp)(ρ:Env)(r:Res),wP K B0 H0 H σ ρ/\g ρ=some r/\OL K B0 H0 E r
section
variable {K:Frag}{B0 H0 N H H':Hp}{σ:St}{ρ:Env}{E:Ends}
def dU.writeB (s:dU K B0 H0 N H σ ρ)(hi:ρ[i]? = some (some (d,true)))(G:σ[i]? = some (some (V.ref a)))(h:Bx K (dW N (own σ ρ)) ob dd):
  dU K B0 H0 (upd N a ob) (upd H a ob) σ (ρ.set i (some (dd,true))):=by
 have oa:own σ ρ a:=⟨i,d,hi,G⟩;obtain⟨ws,hw,h0⟩:=s.owned oa;have b0:B0 a=none:=s.bh.free h0;have o:∀b,own σ (ρ.set i (some (dd,true))) b↔own σ ρ b:=λb=>by
  constructor
  ·rintro⟨j,e,O,M⟩;rcases cm O with⟨rfl,p⟩|⟨_,p⟩
   ·exact⟨i,d,hi,M⟩
   ·exact⟨j,e,p,M⟩
  ·rintro⟨j,e,O,M⟩;by_cases z:i=j
   ·subst z;exact⟨i,dd,by rw[List.getElem?_set_self (vV hi).1],M⟩
   ·exact⟨j,e,by rw[vB z];exact O,M⟩
 have c:aZ (dW N (own σ ρ)) (dW (upd N a ob) (own σ (ρ.set i (some (dd,true))))):=eV λb u e q=>by
  have ne:b≠a:=λz=>q (z ▸ oa);exact⟨by rw[aG ne];exact e,λz=>q ((o b).mp z)⟩
 refine⟨s.bh,s.tb,⟨λb u e=>?_,λb u e=>?_,λb u e=>?_,λb u e=>?_⟩,by rw[length_set];exact s.len,λj e q=>?_,λj e q=>?_,λj k b e f q q' h1 h2=>?_⟩
 ·rw[aG (λz=>by subst z;rw[h0]at e;cases e)];exact s.ext.hh _ _ e
 ·rw[aG (λz=>by subst z;rw[b0]at e;cases e)];exact s.ext.bn _ _ e
 ·by_cases z:b=a
  ·subst z;rw[aB]at e ⊢;exact e
  ·rw[aG z]at e ⊢;exact s.ext.nh _ _ e
 ·by_cases z:b=a
  ·subst z;exact .inr h0
  ·rw[aG z]at e;exact s.ext.new _ _ e
 ·rcases cm q with⟨rfl,p⟩|⟨ne,p⟩
  ·cases p
  ·obtain⟨v,h1,h2⟩:=s.sh j e p;exact⟨v,h1,h2.mono c⟩
 ·rcases cm q with⟨rfl,p⟩|⟨ne,p⟩
  ·cases p
   exact⟨a,ob,G,aB,h0,h.mono c⟩
  ·obtain⟨U,o',h1,h2,h3,h4⟩:=s.ow j e p;have na:U≠a:=λz=>by subst z;exact ne (s.inj i j _ d e hi p G h1)
   exact⟨U,o',h1,by rw[aG na];exact h2,h3,h4.mono c⟩
 ·have get:∀ {j:Nat}{e:D},(ρ.set i (some (dd,true)))[j]? = some (some (e,true))->∃T,ρ[j]? = some (some (T,true)):=λ{j e} q=>by
   rcases cm q with⟨rfl,p⟩|⟨ne,p⟩
   ·exact⟨d,hi⟩
   ·exact⟨e,p⟩
  obtain⟨T,O⟩:=get q;obtain⟨f',M⟩:=get q';exact s.inj j k b T f' O M h1 h2
def dU.write (s:dU K B0 H0 N H σ ρ)(hi:ρ[i]? = some (some (d,true)))(G:σ[i]? = some (some (V.ref a)))(h:IsL K (dW N (own σ ρ)) vs ds):
  dU K B0 H0 (upd N a (.lst vs)) (upd H a (.lst vs)) σ (ρ.set i (some (.lst ds,true))):=s.writeB hi G (.lst h)
def dU.tups (s:dU K B0 H0 N H σ ρ):∀a vs,js K N a vs->js K (dW N (own σ ρ)) a vs:=λa vs h=>by
 have G:∀u,N a=some u->¬boxed u->dW N (own σ ρ) a=some u:=λu e hu=>by
  rw[cY λz=>?_];exact e;obtain⟨O,⟨q,M⟩,_⟩:=s.owned z;rw[e]at q;cases q;exact hu M
 rcases h with (h|⟨o,h⟩)|h
 ·exact .inl (.inl (G _ h (λq=>q)))
 ·exact .inl (.inr ⟨o,G _ h (λq=>q)⟩)
 ·exact .inr h
def dU.flat (s:dU K B0 H0 N H σ ρ)(h:Is K N v d)(n:bC d=true):Is K (dW N (own σ ρ)) v d:=h.keepT s.tups n
def dU.flats (s:dU K B0 H0 N H σ ρ)(h:IsL K N v d)(n:bD d=true):IsL K (dW N (own σ ρ)) v d:=h.keepT s.tups n
def dU.rebase (s:dU K B0 H0 N H σ ρ):dU K (dW N (own σ ρ)) (dW H (own σ ρ)) N H σ ρ :=
 ⟨eV λa o e q=>⟨s.ext.nh _ _ e,q⟩,s.tbC,⟨bW,bW,s.ext.nh,λa o e=>by
  by_cases q:own σ ρ a
  ·exact .inr (AF q)
  ·exact .inl (by rw[cY q];exact e)⟩,s.len,s.sh,λi d q=>by
   obtain⟨a,o,h1,h2,_,h4⟩:=s.ow i d q;exact⟨a,o,h1,h2,AF ⟨i,d,q,h1⟩,h4⟩,s.inj⟩
def dU.unbase (s:dU K B0 H0 N H σ ρ)(t:dU K (dW N (own σ ρ)) (dW H (own σ ρ)) N' H' σ' ρ'):dU K B0 H0 N' H' σ' ρ':=by
 have h0:aZ H0 (dW H (own σ ρ)):=λa o e=>by
  rw[cY λz=>?_];exact s.ext.hh _ _ e;obtain⟨_,_,q⟩:=s.owned z;rw[q]at e;cases e
 have G:aZ B0 (dW N (own σ ρ)):=λa o e=>by
  rw[cY λz=>?_];exact s.ext.bn _ _ e;obtain⟨_,_,q⟩:=s.owned z;rw[s.bh _ _ e]at q;cases q
 refine⟨s.bh,s.tb,⟨h0.trans t.ext.hh,G.trans t.ext.bn,t.ext.nh,λa o e=>?_⟩,t.len,t.sh,λi d q=>?_,t.inj⟩
 ·rcases t.ext.new a o e with z|z
  ·exact s.ext.new a o (bW _ _ z)
  ·exact .inr (h0.free z)
 ·obtain⟨a,o,h1,h2,h3,h4⟩:=t.ow i d q;exact⟨a,o,h1,h2,h0.free h3,h4⟩
def dU.based (t:dU K B0 H0 N H σ ρ):aZ B0 (dW N (own σ ρ)):=λa o e=>by
 rw[cY λz=>?_];exact t.ext.bn _ _ e;obtain⟨_,_,q⟩:=t.owned z;rw[t.bh _ _ e]at q;cases q
@[simp] noncomputable def a8 (g h:FS):FS:=λρ=>match g ρ with|some (.nx ρ')=>h ρ'|r=>r
@[simp] noncomputable def aP:FS:=λρ=>some (.nx ρ)
@[simp] noncomputable def cN (c:FT)(g h:FS):FS:=λρ=>match c ρ with|some true=>g ρ|some false=>h ρ|none=>none
@[simp] noncomputable def aE (f:FE):FS:=λρ=>(f ρ).map λx=>.rt x.1 x.2
@[simp] noncomputable def Fm:D->Bool
 |.dk _ _=>true
 |.dt _ _=>true
 |_=>false
@[simp] def hG (i:Nat):FS:=λρ=>match ρ[i]? with|some (some (d,b))=>some (.rt d (b && !Fm d))|_=>none
@[simp] def KS:D->Bool
 |.lst ds=>bD ds
 |_=>false
@[simp] def setE (ρ:Env)(i:Nat)(d:D)(b:Bool):Env :=
 if bC d=true then ρ.set i (some (d,false))else if b=true/\KS d=true then ρ.set i (some (d,true))else (unown ρ).set i (some (d,false))
@[simp] def ba (i:Nat)(f:FE):FS:=λρ=>(f ρ).map λx=>.nx (setE ρ i x.1 x.2)
@[simp] def yr (i:Nat)(f:FE):FS:=λρ=>(f (gU ρ)).map λx=>.nx (ρ.set i (some (x.1,false)))
@[simp] def mL (i:Nat)(f:FE):FS:=λρ=>match ρ[i]? with
 |some (some (.lst ds,true))=>(f ρ).bind λx=>if bC x.1=true/\ds.length<sizeLine then some (.nx (ρ.set i (some (.lst (ds++[x.1]),true))))else none
 |_=>none
def IK (q:mK K (a8 g h) E σ H):Ot (mK K g) (mK K h) E σ H:=by
 obtain⟨B0,H0,ρ,r,s,e,p⟩:=q;unfold a8 at e;cases G:g ρ with
 |none=>rw[G]at e;cases e
 |some M=>
  rw[G]at e;cases M with
  |nx ρ'=>exact⟨B0,H0,ρ,.nx ρ',s,G,λO H' s'=>⟨B0,H0,ρ',r,s',e,p⟩⟩
  |rt d b=>cases e;exact⟨B0,H0,ρ,_,s,G,p⟩
  |bk ρ'=>cases e;exact⟨B0,H0,ρ,_,s,G,p⟩
  |ct ρ'=>cases e;exact⟨B0,H0,ρ,_,s,G,p⟩
def Fo (q:mK K aP E σ H):EH E σ H:=by
 obtain⟨B0,H0,ρ,r,s,e,p⟩:=q;cases e
 exact p σ H s
def wP.grown (s:dU K B0 H0 N H σ ρ)(h:aZ H H'):wP K B0 H0 H' σ ρ:=⟨N,s.grow (.grow s.ext.nh h)⟩
def Mp (q:mK K (cN c g h) E σ H):LJ (AE K c) (mK K g) (mK K h) E σ H:=by
 obtain⟨B0,H0,ρ,r,⟨N,s⟩,e,p⟩:=q;unfold cN at e;cases G:c ρ with
 |none=>rw[G]at e;cases e
 |some b=>
  rw[G]at e;refine⟨N,ρ,b,s.ext.nh,s.rep,G,λM h1=>?_⟩;cases b with
  |true=>rw[if_pos rfl];exact⟨B0,H0,ρ,r,.grown s h1,e,p⟩
  |false=>rw[if_neg (by decide)];exact⟨B0,H0,ρ,r,.grown s h1,e,p⟩
def IL (q:mK K (aE f) E σ H):LH (tD K f) E σ H:=by
 obtain⟨B0,H0,ρ,r,⟨N,s⟩,e,p⟩:=q;obtain⟨x,ex,e⟩:=oY e;subst e;exact⟨N,ρ,x.1,x.2,s.ext.nh,s.rep,ex,λv G N1 M i1 f1=>p v G N1 (s.ext.trans M) i1 λb=>(f1 b).back s.ext.hh⟩
def Fp (q:mK K (hG i) E σ H):LH (om i) E σ H:=by
 obtain⟨B0,H0,ρ,r,⟨N,s⟩,e,p⟩:=q;unfold hG at e;split at e
 ·rename_i d b ei;cases e
  cases b with
  |false=>
   obtain⟨v,h1,h2⟩:=s.sh i d ei;exact⟨v,h1,p v H N s.ext (h2.mono bW) (by simp)⟩
  |true=>
   obtain⟨a,o,h1,h2,h3,h4⟩:=s.ow i d ei;cases h4 with
   |lst h4=>exact⟨_,h1,p _ H N s.ext (.lst (gT.of h2) (h4.mono bW)) λ_=>⟨a,_,_,rfl,rfl,h3,h2,h4.mono bW⟩⟩
   |dk hl h4=>exact⟨_,h1,p _ H N s.ext (.dk h2 hl (h4.mono bW)) (by simp)⟩
   |dt hl h4=>exact⟨_,h1,p _ H N s.ext (.dt h2 hl (h4.mono bW)) (by simp)⟩
 ·cases e
def dU.setE (s:dU K B0 H0 N H σ ρ)(x:Ext N N1 H H1)(h:Is K N1 v d)(f:b=true->NM K H N1 v d):dU K B0 H0 N1 H1 (σ.set i (some v)) (setE ρ i d b):=by
 have s1:=s.grow x;unfold DL.setE;by_cases hn:bC d=true
 ·rw[if_pos hn];exact s1.bind (s1.flat h hn)
 ·rw[if_neg hn];by_cases hb:b=true/\KS d=true
  ·rw[if_pos hb];obtain⟨a,vs,ds,rfl,rfl,ha,O,hs⟩:=f hb.1;have G:N a=none:=s.ext.nh.free ha;have T:¬own σ ρ a:=λz=>by obtain⟨U,⟨q,_⟩,_⟩:=s.owned z;rw[G]at q;cases q
   have c:aZ (dW N (own σ ρ)) (dW N1 (λb=>own σ ρ b∨b=a)):=eV λb u e q=>⟨x.bn _ _ e,λz=>z.elim q λz=>by subst z;rw[G]at e;cases e⟩;refine s1.bindOwn O (s.ext.hh.free ha) (λj e q z=>T ⟨j,e,q,z⟩) (λj e _ q=>?_) (λj e _ q=>?_) (.lst (hs.keepT (λt ts st=>?_) hb.2))
   ·obtain⟨w,h1,h2⟩:=s.sh j e q;exact⟨w,h1,h2.mono c⟩
   ·obtain⟨a',o',h1,h2,_,h4⟩:=s.ow j e q;exact⟨a',o',h1,x.bn _ _ h2,h4.mono c⟩
   ·have M:∀u,N1 t=some u->¬boxed u->dW N1 (λb=>own σ ρ b∨b=a) t=some u:=λu e hu=>by
     rw[cY λz=>?_];exact e;rcases z with z|z
     ·obtain⟨U,⟨q,qb⟩,_⟩:=s1.owned z;rw[e]at q;cases q;exact hu qb
     ·subst z;rw[e]at O;cases O;exact hu trivial
    rcases st with (st|⟨o,st⟩)|st
    ·exact .inl (.inl (M _ st (λq=>q)))
    ·exact .inl (.inr ⟨o,M _ st (λq=>q)⟩)
    ·exact .inr st
  ·rw[if_neg hb];exact s1.unown.bind (h.mono λa o e=>by rw[cY uy];exact e)
def BN (q:mK K (ba i f) E σ H):Dt (tD K f) (jv i) E σ H:=by
 obtain⟨B0,H0,ρ,r,⟨N,s⟩,e,p⟩:=q;obtain⟨x,ex,e⟩:=oY e;subst e;exact⟨N,ρ,x.1,x.2,s.ext.nh,s.rep,ex,λv G N1 M i1 f1=>p _ G ⟨N1,s.setE M i1 f1⟩⟩
def Fq (q:mK K (yr i f) E σ H):Dt (tD K f) (jv i) E σ H:=by
 obtain⟨B0,H0,ρ,r,⟨N,s⟩,e,p⟩:=q;obtain⟨x,ex,e⟩:=oY e;subst e;refine⟨dW N (own σ ρ),gU ρ,x.1,x.2,bW.trans s.ext.nh,s.repH,ex,λv G N1 M i1 f1=>?_⟩;obtain⟨s1,c⟩:=s.growH M;exact p _ G ⟨_,s1.bind (i1.mono c)⟩
def IM (q:mK K (mL i f) E σ H):∃(a:Addr)(us:LV),σ[i]? = some (some (V.ref a))/\H a=some (.lst us)/\KN (tD K f) O7 σ H λxs H2=>BJ (.ref a) xs H2 λ_ O=>E.nx σ O:=by
 obtain⟨B0,H0,ρ,r,⟨N,s⟩,e,p⟩:=q;unfold mL at e;split at e
 ·rename_i ds ei;obtain⟨x,ex,e⟩:=oX e;split at e
  ·rename_i hx;cases e
   obtain⟨a,vs,G,z,h1,h2,h3,h4⟩:=s.owL i _ ei;cases z
   refine⟨a,vs,h1,s.ext.nh _ _ h2,N,ρ,x.1,x.2,s.ext.nh,s.rep,ex,λv U N1 M i1 f1=>⟨a,vs,v,rfl,rfl,M.hh _ _ (s.ext.nh _ _ h2),by rw[h4.length];exact hx.2,?_⟩⟩;have s1:=s.grow M;obtain⟨a',T,G,z,k1,k2,_,k4⟩:=s1.owL i _ ei;cases z
   rw[h1]at k1;cases k1;rw[M.bn _ _ h2]at k2;cases k2;exact p σ _ ⟨_,s1.write ei h1 (k4.append (.cons (s1.flat i1 hx.1) .nil))⟩
  ·cases e
 ·cases e
end
noncomputable def cO (c:FT)(g:FS):Nat->Env->Option Res
 |0,_=>none
 |n+1,ρ=>match c ρ with
  |some true=>match g ρ with
   |some (.nx ρ')=>cO c g n ρ'
   |some (.ct ρ')=>cO c g n ρ'
   |some (.bk ρ')=>some (.nx ρ')
   |r=>r
  |some false=>some (.nx ρ)
  |none=>none
def D8 (q:mK K (cO c g n) E σ H):EK (AE K c) (mK K g) E σ H:=by
 obtain⟨B0,H0,ρ,r,s,e,p⟩:=q;refine⟨λm σ H=>∃ρ,wP K B0 H0 H σ ρ/\cO c g m ρ=some r,⟨n,ρ,s,e⟩,?_⟩;rintro m σ H ⟨ρ,⟨N,s⟩,e⟩;cases m with
 |zero=>cases e
 |succ m=>
  unfold cO at e;cases M:c ρ with
  |none=>rw[M]at e;cases e
  |some b=>
   rw[M]at e;refine⟨N,ρ,b,s.ext.nh,s.rep,M,λU h1=>?_⟩;cases b with
   |false=>rw[if_neg (by decide)];cases e;exact p σ U (.grown s h1)
   |true=>
    rw[if_pos rfl];refine⟨λσ H=>∃ρ,wP K B0 H0 H σ ρ/\cO c g m ρ=some r,λG H' w=>⟨m,lt_succ_self m,w⟩,?_⟩;cases O:g ρ with
    |none=>rw[O]at e;cases e
    |some T=>
     rw[O]at e;refine⟨B0,H0,ρ,T,.grown s h1,O,?_⟩;cases T with
     |nx ρ'=>exact λG H' s'=>⟨ρ',s',e⟩
     |ct ρ'=>exact λG H' s'=>⟨ρ',s',e⟩
     |bk ρ'=>cases e;exact λG H' s'=>p G H' s'
     |rt d b=>cases e;exact p
def mM (K:Frag)(J:It)(B:Hp)(ds:LD):Prop:=∀(i:Nat)(H:Hp),aZ B H ->
 (∀d,ds[i]? = some d->J.go i H/\∀x H',J.yld i H x H'->∃N,Ext B N H H'/\Is K N x d)/\(ds.length<=i->J.stop i H)
def T2 (K:Frag)(f:FA):TI:=λσ H R=>∃(B:Hp)(ρ:Env)(ds:LD),aZ B H/\fO K B σ ρ/\f ρ=some ds/\∀(J:It)(H' N:Hp),Ext B N H H'->mM K J N ds->R J H'
abbrev FG:=D->Env->Option Env
def IN (K:Frag)(tg:FG)(g:TG):Prop:=∀(B0 H0 N H:Hp)(σ:St)(ρ ρ':Env)(v:V)(d:D)(Q:St->Hp->Prop),dU K B0 H0 N H σ ρ->Is K (dW N (own σ ρ)) v d->tg d ρ=some ρ' ->
 (∀G H',wP K B0 H0 H' G ρ'->Q G H')->g v σ H Q
@[simp] noncomputable def cU (i:Nat):FG:=λd ρ=>some (ρ.set i (some (d,false)))
def dF:IN K (cU i) (jv i):=by
 intro B0 H0 N H σ ρ ρ' v d Q s h e k;cases e
 exact k _ H ⟨N,s.bind h⟩
noncomputable def gV (tg:FG)(g:FS):LD->Env->Option Res
 |[],ρ=>some (.nx ρ)
 |d::ds,ρ=>(tg d ρ).bind λG=>match g G with
  |some (.nx ρ')=>gV tg g ds ρ'
  |some (.ct ρ')=>gV tg g ds ρ'
  |some (.bk ρ')=>some (.nx ρ')
  |r=>r
@[simp] def qH (tg:FG)(g:FS)(ρ:Env):gV tg g [] ρ=some (.nx ρ):=by rw[gV]
@[simp] theorem lx (tg:FG)(g:FS)(d:D)(ds:LD)(ρ:Env):gV tg g (d::ds) ρ=(tg d ρ).bind λG=>match g G with
  |some (.nx ρ')=>gV tg g ds ρ'
  |some (.ct ρ')=>gV tg g ds ρ'
  |some (.bk ρ')=>some (.nx ρ')
  |r=>r:=by rw[gV]
@[simp] def kx (f:FA)(tg:FG)(g:FS):FS:=λρ=>(f (gU ρ)).bind λds=>gV tg g ds ρ
def yt (ht:IN K tg t)(s1:dU K B0 H0 N H1 σ ρ)(c:aZ N1 (dW N (own σ ρ)))(J1:mM K J N1 ds)(e:gV tg g ds ρ=some r)(p:OL K B0 H0 E r):
  ∃W:Nat->Nat->St->Hp->Prop,(∃m,W 0 m σ H1)/\∀i m σ H,W i m σ H->(J.stop i H/\E.nx σ H)∨(J.go i H/\∃N:St->Hp->Prop,(∀G H',N G H'->∃m',m'<m/\W (i+1) m' G H')/\∀x H',J.yld i H x H'->t x σ H' λT H2=>mK K g { E with nx:=N,ct:=N,bk:=E.nx } T H2):=by
 refine⟨λi m σ H=>∃(N:Hp)(ρ:Env),dU K B0 H0 N H σ ρ/\aZ N1 (dW N (own σ ρ))/\m=ds.length - i/\i<=ds.length/\gV tg g (ds.drop i) ρ=some r,⟨ds.length,_,ρ,s1,c,rfl,uN _,e⟩,?_⟩;clear e s1 c;rintro i m σ H ⟨N,ρ,s,c,rfl,hi,e⟩;have hs:aZ N1 H:=c.trans (bW.trans s.ext.nh);obtain⟨j1,j2⟩:=J1 i H hs;by_cases M:i<ds.length
 ·obtain⟨go,yl⟩:=j1 ds[i] (by simp[M]);rw[List.drop_eq_getElem_cons M]at e;obtain⟨U,e1,e⟩:=oX e;refine .inr ⟨go,λG H'=>∃(N:Hp)(ρ:Env),dU K B0 H0 N H' G ρ/\aZ N1 (dW N (own G ρ))/\gV tg g (ds.drop (i+1)) ρ=some r,λG H' ⟨N',ρ',s',c',e'⟩=>⟨_,by omega,N',ρ',s',c',rfl,M,e'⟩,λx H' y=>?_⟩;obtain⟨N2,O,i2⟩:=yl x H' y;have x3:Ext (dW N (own σ ρ)) (join (dW N (own σ ρ)) N2) H H':=by
   refine⟨O.hh,fu,λa o e=>?_,λa o e=>?_⟩
   ·cases q:dW N (own σ ρ) a with
    |some u=>rw[fu _ _ q]at e;cases e;exact O.hh _ _ (s.ext.nh _ _ (bW _ _ q))
    |none=>rw[eG q]at e;exact O.nh _ _ e
   ·cases q:dW N (own σ ρ) a with
    |some u=>rw[fu _ _ q]at e;cases e;exact .inl rfl
    |none=>
     rw[eG q]at e;rcases O.new a o e with z|z
     ·rw[c _ _ z]at q;cases q
     ·exact .inr z
  obtain⟨s2,c2⟩:=s.growH x3;have c3:aZ N2 (join (dW N (own σ ρ)) N2):=λa o e=>by
   rcases O.new a o e with z|z
   ·exact fu _ _ (c _ _ z)
   ·rw[eG ((bW.trans s.ext.nh).free z)];exact e
  have i3:=i2.mono (c3.trans c2);have c4:aZ N1 (dW (join N (join (dW N (own σ ρ)) N2)) (own σ ρ)):=(O.bn.trans c3).trans c2;refine ht _ _ _ _ _ _ _ _ _ _ s2.rebase i3 e1 λT H2 ⟨N4,s4⟩=>?_;cases eg:g U with
  |none=>rw[eg]at e;cases e
  |some r1=>
   rw[eg]at e;refine⟨_,_,U,r1,⟨N4,s4⟩,eg,?_⟩;have back:∀ {G:St}{H':Hp}{ρ':Env}{N':Hp},dU K _ _ N' H' G ρ'->dU K B0 H0 N' H' G ρ'/\aZ N1 (dW N' (own G ρ')):=λt=>⟨s2.unbase t,c4.trans t.based⟩;cases r1 with
   |nx ρ'=>exact λG H' ⟨N',t⟩=>⟨N',ρ',(back t).1,(back t).2,e⟩
   |ct ρ'=>exact λG H' ⟨N',t⟩=>⟨N',ρ',(back t).1,(back t).2,e⟩
   |bk ρ'=>cases e;exact λG H' ⟨N',t⟩=>p G H' ⟨N',(back t).1⟩
   |rt d b=>
    cases e
    intro v H' N' x' i' f';have y:=s2.rebase.ext;have h0:aZ H0 (dW H' (λ_=>False)):=λa o e=>by rw[cY (λz=>z)];exact x'.hh _ _ (by
     rw[cY λz=>?_];exact s2.ext.hh _ _ e;obtain⟨_,_,q⟩:=s2.owned z;rw[q]at e;cases e)
    have XX:aZ H0 (dW H' (λ_=>False)):=h0;have hH:aZ H0 (dW H' (λ_=>False)):=h0;have hc:∀a,dW H' (λ_=>False) a=H' a:=λa=>cY (λz=>z);have hb:aZ H0 (dW _ (own σ ρ)):=λa o e=>by
     rw[cY λz=>?_];exact s2.ext.hh _ _ e;obtain⟨_,_,q⟩:=s2.owned z;rw[q]at e;cases e
    have bb:aZ B0 (dW _ (own σ ρ)):=λa o e=>by
     rw[cY λz=>?_];exact s2.ext.bn _ _ e;obtain⟨_,_,q⟩:=s2.owned z;rw[s2.bh _ _ e]at q;cases q
    refine p v H' N' ⟨hb.trans x'.hh,bb.trans x'.bn,x'.nh,λa o e=>?_⟩ i' λz=>(f' z).back hb;rcases x'.new a o e with z|z
    ·exact s2.ext.new a o (bW _ _ z)
    ·exact .inr (hb.free z)
 ·have ei:i=ds.length:=by omega
  subst ei;rw[drop_eq_nil_of_le (vT _)]at e;cases e
  exact .inl ⟨j2 (vT _),p σ H ⟨N,s⟩⟩
def IP (G:IN K tg t)(q:mK K (kx f tg g) E σ H):Ip (T2 K f) t (mK K g) E σ H:=by
 obtain⟨B0,H0,ρ,r,⟨N,s⟩,e,p⟩:=q;obtain⟨ds,M,e⟩:=oX e;refine⟨dW N (own σ ρ),gU ρ,ds,bW.trans s.ext.nh,s.repH,M,λJ U N1 O T=>?_⟩;obtain⟨s1,c⟩:=s.growH O;exact yt G s1 c T e p
def Q2 (K:Frag)(f:FA):TI:=λσ H R=>∃(B:Hp)(ρ:Env)(ds:LD),aZ B H/\fO K B σ ρ/\f ρ=some ds/\∀(J:It)(H' N:Hp),Ext B N H H'->(∀G,mM K J G ds)->R J H'
@[simp] def ph (f:FA)(tg:FG)(g:FS):FS:=λρ=>(f ρ).bind λds=>gV tg g ds ρ
def Fs (G:IN K tg t)(q:mK K (ph f tg g) E σ H):Ip (Q2 K f) t (mK K g) E σ H:=by
 obtain⟨B0,H0,ρ,r,⟨N,s⟩,e,p⟩:=q;obtain⟨ds,M,e⟩:=oX e;refine⟨N,ρ,ds,s.ext.nh,s.rep,M,λJ U N1 O T=>?_⟩;exact yt G (s.grow O) (aZ.refl _) (T _) e p
end DL
namespace DL
open PySem PySem.Spec PyProof.Rows L2
abbrev JE (X:Cx)(e:Expr)(f:FE):Prop:=PE X e (tD X.K f)
abbrev JT (X:Cx)(e:Expr)(f:FT):Prop:=PT X e (AE X.K f)
abbrev JW (X:Cx)(e:Expr)(f:FT):Prop:=PW X e (AE X.K f)
abbrev JA (X:Cx)(es:QD)(f:FA):Prop:=PA X es (NN X.K f)
abbrev JS (X:Cx)(st:Stmt)(g:FS):Prop:=PS X st (mK X.K g)
abbrev tY (X:Cx)(st:List Stmt)(g:FS):Prop:=tU X st (mK X.K g)
abbrev JI (X:Cx)(tg G:Expr)(f:FA):Prop:=PI X tg G (T2 X.K f)
def Mq (M:Model)(A:Around)(O:QD)(T:Expr)(env:PySem.Env)(U:Value)(E:QV)(P:Shared->Prop):Shared->Prop :=
 wpAny M A (forIn O true λc r=>if r=true then do let ok ←isTrue c env (eval c env);pure (ForInStep.yield ok)else pure (ForInStep.yield r))
  (λok G=>if ok=true then wpAny M A (eval T env) (λx=>wpAny M A (call (.builtin "list.append") [U,x]) (λ_=>P) E) E G else P G) E
def wR {E:QV}(hE:∀x s,¬E x s)(I:Nat->Shared->Prop)
  (T:∀n s,I n s->wpAny (model prog w) A (pyNext it) (λr G=>match r with
   |none=>R (.ok .next) G
   |some v=>wpAny (model prog w) A (letOwnedTupleGo B8 it v) (λ_=>wpAny (model prog w) A (assign B8 env v) (λ_=>Mq (model prog w) A B9 ya env Ap E λs=>∃m,m<n/\I m s) E) E G) E s)
  (n:Nat) (h:I n s):codeAny (model prog w) A (.compLoop (.ListComp ya [⟨B8,gE,B9,0⟩] scope pos) 0 it Ap env) R s:=by
 refine codeAny_loop rfl I (λn s hI=>?_) n h;show wpAny _ A ((compTurn (.ListComp ya [⟨B8,gE,B9,0⟩] scope pos) 0 it Ap env).onRaise (λx=>do noteFrame x env;theTreesLotGoes x)) _ _ s;refine wpAny_noted (wpAny_mono (E:=E) ?_ (λ_ _ q=>q) λ_ _ z=>(hE _ _ z).elim);rw[compTurn_list];refine wX (wpAny_standAt (wX (c7 (T n s hI) λr G M=>?_)));cases r with
 |none=>exact wY M
 |some v=>
  refine wX (c7 M λ_ G M=>wX (c7 M λ_ s₂ U=>wX (c7 U λok s₃ O=>?_)));cases ok with
  |false=>exact wY ⟨rfl,O⟩
  |true=>exact wX (wX (c7 O λx s₄ h₄=>wX (c7 h₄ λ_ s₅ h₅=>wY (wY ⟨rfl,h₅⟩))))
def Ext.upd (x:Ext B N H H')(h:H a=none)(G:N a=none):Ext B N H (upd H' a o) :=
 ⟨λb u e=>by rw[aG (λz=>by subst z;rw[h]at e;cases e)];exact x.hh _ _ e,x.bn,λb u e=>by rw[aG (λz=>by subst z;rw[G]at e;cases e)];exact x.nh _ _ e,x.new⟩
noncomputable abbrev jf (X:Cx)(N':LS)(scope:Scope)(cl:List (Str×Addr))(C:Addr)(G:Shared)(M:Hp)(fp:List Addr):Cx :=
 { X with N:=N',s₀:=G,H₀:=M,env:=compEnvC scope cl C X.env,outer:=X.stack,stack:=X.stack,ex:=fp,fn:=λ_=>false,pn:=[],xe:=λ_ _=>False }
inductive oj (X:Cx)(N':List Str)(scope:Scope)(cl:List (Str×Addr)):Nat->List Nat->Prop where
 |nil {j:Nat}(h:N'.length=j):oj X N' scope cl j []
 |cons {j i:Nat}{r:List Nat}{x:Str}(h1:N'[j]? = some x) (h2:X.N[i]? = some x) (h3:X.env.kindOf x=some .cell∨X.env.kindOf x=some .free)
   (h4:(relabel scope X.env).names.lookup x=some .cell∨(relabel scope X.env).names.lookup x=some .free) (h5:cl.lookup x=X.env.cells.lookup x) (t:oj X N' scope cl (j+1) r):oj X N' scope cl j (i::r)
theorem oj.len:∀ {j:Nat}{cap:LN},oj X N' scope cl j cap->N'.length=j+cap.length
 |_,_,.nil h=>by rw[h];rfl
 |j,i::r,.cons _ _ _ _ _ t=>by rw[t.len,vE];omega
theorem oj.get:∀ {j:Nat}{cap:LN}{k i:Nat},oj X N' scope cl j cap->cap[k]? = some i->∃x,N'[j+k]? = some x/\X.N[i]? = some x/\(X.env.kindOf x=some .cell∨X.env.kindOf x=some .free) /\
  ((relabel scope X.env).names.lookup x=some .cell∨(relabel scope X.env).names.lookup x=some .free)/\cl.lookup x=X.env.cells.lookup x
 |_,_,_,_,.nil _,e=>by simp at e
 |j,_,0,_,.cons h1 h2 h3 h4 h5 _,e=>by simp at e;subst e;exact⟨_,h1,h2,h3,h4,h5⟩
 |j,_,k+1,i,.cons _ _ _ _ _ t,e=>by
  obtain⟨x,q,r⟩:=t.get (k:=k) (i:=i) (by simpa using e);exact⟨x,by rw[show j+(k+1)=j+1+k by omega];exact q,r⟩
structure CompSc (X:Cx)(scope:Scope)(cl:List (Str×Addr)):Prop where
 clos:closureFor scope X.env=pure cl
 nocell:∀y∈scope.names,y.2≠.cell
 kind:scope.kind=.function
 names:∀y∈scope.names,y.2=.local->scope.names.lookup y.1=some .local
 sub:∀x c,cl.lookup x=some c->X.env.cells.lookup x=some c
 has:∀x,((relabel scope X.env).names.lookup x=some .cell∨(relabel scope X.env).names.lookup x=some .free)->∃c,cl.lookup x=some c
noncomputable def dX:List (Str×NameKind)->List (Str×Addr)->List (Str×Addr)->List (Str×Addr)
 |[],_,cs=>cs
 | (n,k)::r,cells,cs=>dX r cells (if k == .free then (match cells.lookup n with|some c=>(n,c)::cs|none=>cs)else cs)
def u0:∀(names:List (Str×NameKind))(cs:List (Str×Addr)),(∀y∈names,y.2=.free->(env.cells.lookup y.1).isSome=true) ->
    (do let mut cs:=cs
        for (name,kind)in names do
          if kind == .free then cs:=(name,←cellOf env name)::cs
        return cs:Sem (List (Str×Addr)))=pure (dX names env.cells cs):=by
  intro names;induction names with
  |nil=>intro cs _;rfl
  |cons y r O=>
    intro cs h;obtain⟨n,k⟩:=y;have G:=λcs=>O cs λy hy=>h y (mZ _ hy);by_cases hk:k=.free
    . subst hk;have hc:=h (n,.free) mX rfl;cases q:env.cells.lookup n with
      |none=>rw[q]at hc;cases hc
      |some c=>
        have M:dX ((n,.free)::r) env.cells cs=dX r env.cells ((n,c)::cs):=by
          rw[dX,q];rfl
        rw[M,←G ((n,c)::cs)];have e2:cellOf env n=pure c:=by unfold cellOf;rw[q]
        simp only[forIn_cons,beq_self_eq_true,if_true,e2];rfl
    . have hb:(k == NameKind.free)=false:=by simpa using hk
      have M:dX ((n,k)::r) env.cells cs=dX r env.cells cs:=by rw[dX,hb];rfl
      rw[M,←G cs];simp only[forIn_cons,hb,uV,if_false];rfl
theorem mN:∀(names:List (Str×NameKind))(cs:List (Str×Addr)),(∀y d,cs.lookup y=some d->cells.lookup y=some d)->(dX names cells cs).lookup x=some c->cells.lookup x=some c
 |[],cs,h,e=>h x c e
 | (n,k)::r,cs,h,e=>by
  rw[dX]at e;refine mN r _ (λy d q=>?_) e;split at q
  ·split at q
   ·rename_i M G;rw[lookup_cons]at q;split at q
    ·rename_i hy;cases q
     rw[eq_of_beq hy];exact G
    ·exact h y d q
   ·exact h y d q
  ·exact h y d q
theorem u8:∀(names:List (Str×NameKind))(cs:List (Str×Addr)),(cs.lookup x).isSome=true->((dX names cells cs).lookup x).isSome=true
 |[],cs,h=>h
 | (n,k)::r,cs,h=>by
  rw[dX];refine u8 r _ ?_;split
  ·split
   ·rw[lookup_cons];split
    ·rfl
    ·exact h
   ·exact h
  ·exact h
theorem mO:∀(names:List (Str×NameKind))(cs:List (Str×Addr)),(x,NameKind.free)∈names->(cells.lookup x).isSome=true->((dX names cells cs).lookup x).isSome=true
 | (n,k)::r,cs,hm,hc=>by
  rw[dX];rcases vP hm with e|e
  ·cases e
   refine u8 r _ ?_;cases q:cells.lookup x with
   |none=>rw[q]at hc;cases hc
   |some c=>simp
  ·exact mO r _ e hc
theorem fX {α:Type}{x:Str}{k:α}:∀ {l:List (Str×α)},l.lookup x=some k->(x,k)∈l
 | (n,j)::r,h=>by
  rw[lookup_cons]at h;split at h
  ·rename_i e;cases h
   rw[eq_of_beq e];exact mX
  ·exact mZ _ (fX h)
def Mr {X:Cx}{scope:Scope}(h1:∀y∈scope.names,y.2≠.cell)(h2:scope.kind=.function)(h3:∀y∈scope.names,y.2=.local->scope.names.lookup y.1=some .local)(G:(scope.names.all λy=>!(y.2 == NameKind.free) || (X.env.cells.lookup y.1).isSome)=true):
  CompSc X scope (dX scope.names X.env.cells []):=by
 have h4:∀y∈scope.names,y.2=.free->(X.env.cells.lookup y.1).isSome=true:=λy hy e=>by
  have:=uR G y hy;rw[e]at this;simpa using this
 have frees:∀x,((relabel scope X.env).names.lookup x=some .cell∨(relabel scope X.env).names.lookup x=some .free)->(x,NameKind.free)∈scope.names:=λx h=>by
  have:∃k,(x,k)∈(relabel scope X.env).names/\(k=.cell∨k=.free):=by
   rcases h with h|h
   ·exact⟨_,fX h,.inl rfl⟩
   ·exact⟨_,fX h,.inr rfl⟩
  obtain⟨k,hm,hk⟩:=this;obtain⟨⟨n,j⟩,hj,e⟩:=vO hm;dsimp only at e;split at e
  ·rename_i hc;rw[vC,vC]at hc;cases e
   rw[←eq_of_beq hc.1.1];exact hj
  ·cases e
   rcases hk with rfl|rfl
   ·exact absurd rfl (h1 _ hj)
   ·exact hj
 exact⟨u0 scope.names [] h4,h1,h2,h3,λx c e=>mN scope.names [] (λy d q=>by cases q) e,λx h=>by
  have:=mO (x:=x) scope.names [] (frees x h) (h4 _ (frees x h) rfl);exact uU this⟩
def qk {scope:Scope}{cells:List (Str×Addr)}{x:Str}(h:(x,NameKind.free)∈scope.names)(hc:(cells.lookup x).isSome=true):(dX scope.names cells []).lookup x=cells.lookup x:=by
 obtain⟨c,e⟩:=uU (mO (x:=x) scope.names [] h hc);rw[e,mN scope.names [] (λy d q=>by cases q) e]
noncomputable def tZ (nT:Nat)(cap:LN)(σ:St):St:=List.replicate nT none++cap.map λi=>(σ[i]?).join
noncomputable def dq (nT:Nat)(cap:LN)(ρ:Env):Env:=List.replicate nT none++cap.map λi=>match ρ[i]? with|some (some (d,_))=>some (d,false)|_=>none
def wS {α:Type}{nT:Nat}{cap:LN}{f:Nat->Option α}{j:Nat}{v:α}(h:(List.replicate nT none++cap.map f)[j]? = some (some v)):∃k i,j=nT+k/\cap[k]? = some i/\f i=some v:=by
 by_cases hj:j<nT
 ·rw[getElem?_append_left (by simpa using hj),getElem?_replicate,if_pos hj]at h;cases h
 ·rw[getElem?_append_right (by simpa using Nat.not_lt.mp hj),length_replicate,vA]at h;obtain⟨i,h1,h2⟩:=oY h;exact⟨j - nT,i,by omega,h1,h2⟩
def IQ {α:Type}{nT:Nat}{cap:LN}{f:Nat->Option α}{k i:Nat}{v:α}(h1:cap[k]? = some i)(h2:f i=some v):(List.replicate nT none++cap.map f)[nT+k]? = some (some v):=by
 rw[getElem?_append_right (by simp),length_replicate,vA,Nat.add_sub_cancel_left,h1];simp[h2]
def fO.caps {K:Frag}{B:Hp}{σ:St}{ρ:Env}{nT:Nat}{cap:LN}(h:fO K B σ ρ):fO K B (tZ nT cap σ) (dq nT cap ρ):=⟨h.tb,λj d b q=>by
 obtain⟨k,i,rfl,h1,h2⟩:=wS q;split at h2
 ·rename_i d' M e;cases h2
  obtain⟨v,g1,G⟩:=h.at' i _ _ e;exact⟨v,IQ h1 (by rw[g1];rfl),G⟩
 ·cases h2⟩
noncomputable def hJ (tg:FG)(c:FT)(fe:FE)(ρ:Env):LD->Option LD
 |[]=>some []
 |d::r=>(tg d ρ).bind λG=>(c G).bind λb=>if b=true then (fe G).bind λx=>(hJ tg c fe ρ r).map (x.1 :: ·)else hJ tg c fe ρ r
@[simp] def NO (tg:FG)(c:FT)(fe:FE)(ρ:Env):hJ tg c fe ρ []=some []:=by rw[hJ]
@[simp] def AG (tg:FG)(c:FT)(fe:FE)(ρ:Env)(d:D)(r:LD):hJ tg c fe ρ (d::r)=(tg d ρ).bind λG=>(c G).bind λb=>if b=true then (fe G).bind λx=>(hJ tg c fe ρ r).map (x.1 :: ·)else hJ tg c fe ρ r:=by rw[hJ]
@[simp] def bO (fi:FA)(nT:Nat)(cap:LN)(tg:FG)(c:FT)(fe:FE):FE:=λρ=>(fi ρ).bind λitems=>if items.length<=sizeLine then (hJ tg c fe (dq nT cap ρ) items).map λds=>(.lst ds,true)else none
def KU (K:Frag)(n:Nat)(tg:FG)(g:TG):Prop:=∀(B H:Hp)(σ:St)(ρ M:Env)(v:V)(d:D)(Q:St->Hp->Prop),(∀i,i<n->ρ[i]? = some none)->fO K B σ ρ->aZ B H->Is K B v d->tg d ρ=some M ->
 ρ.length=σ.length->(∀G,fO K B G M->(∀O,fO K O σ ρ->fO K O G ρ)->ρ.length=G.length->Q G H)->g v σ H Q
def yu {K:Frag}{n i:Nat}(hi:i<n):KU K n (cU i) (jv i):=by
 intro B H σ ρ O v d Q cl rep s h e hl k;cases e
 have M:i<σ.length:=by
  have:=(vV (cl i hi)).1;omega
 refine k _ ⟨rep.tb,λj e b q=>?_⟩ ?_ (by simpa using hl)
 ·rcases cm q with⟨rfl,p⟩|⟨ne,p⟩
  ·cases p
   exact⟨v,by simp[M],h⟩
  ·obtain⟨w,h1,h2⟩:=rep.at' j e b p;exact⟨w,by rw[vB ne];exact h1,h2⟩
 ·intro T G;refine⟨G.tb,λj e b q=>?_⟩;obtain⟨w,h1,h2⟩:=G.at' j e b q;have ne:i≠j:=λz=>by subst z;rw[cl i hi]at q;cases q
  exact⟨w,by rw[vB ne];exact h1,h2⟩
def JC (X:Cx)(G:QD)(c:FT):Prop:=∀(ah:AO)(s:Shared)(σ:St)(H:Hp)(Q:Bool->Hp->Prop),Inv X ah σ H s->AE X.K c σ H Q ->
 wq X (forIn G true λc r=>if r=true then do let ok ←isTrue c X.env (eval c X.env);pure (ForInStep.yield ok)else pure (ForInStep.yield r)) (TP X ah σ Q) X.xe s
@[simp] noncomputable def fR:FT:=λ_=>some true
def fY:JC X [] fR:=by
 intro ah s σ H Q I h;obtain⟨B,ρ,c,G,rep,e,q⟩:=h;cases e
 exact wpAny_tests_nil ⟨H,I,q H (.refl H)⟩
def dY (h:JT X e f):JC X [e] f:=λah s σ H Q I q=>wpAny_tests_one (h ah s σ H Q I q)
inductive CI (Y:Cx)(tn:Nat->Heap->Prop)(fp:List Addr)(N1 H2:Hp)(κ:Env)(a:Addr)(l:List D->Option (List D))(items ds:List D)(s:Shared):Nat->Prop
 |mk (i:Nat) (N:Hp) (vs:List V) (es r:List D) (σ:St) (H:Hp) (I:Inv Y [] σ H s) (ti:tn i s.heap) (hn:∀b∈fp,H b=none) (hi:i<=items.length) (rp:fO Y.K N1 σ κ) (hl:κ.length=σ.length)
   (x:Ext N1 N H2 H) (n0:N a=none) (h0:H a=some (.lst vs)) (vl:vs.length<=i) (iv:IsL Y.K N vs es) (er:l (items.drop i)=some r) (ed:es++r=ds):CI Y tn fp N1 H2 κ a l items ds s (items.length - i)
def Ext.both (x:Ext N1 N H2 H)(y:Ext N1 N' H H'):Ext N (join N N') H H'/\aZ N' (join N N'):=by
 refine⟨⟨y.hh,fu,λa o e=>?_,λa o e=>?_⟩,λa o e=>?_⟩
 ·cases z:N a with
  |some G=>rw[fu _ _ z]at e;cases e;exact y.hh _ _ (x.nh _ _ z)
  |none=>rw[eG z]at e;exact y.nh _ _ e
 ·cases z:N a with
  |some G=>rw[fu _ _ z]at e;cases e;exact .inl rfl
  |none=>
   rw[eG z]at e;exact(y.new a o e).elim (λM=>by rw[x.bn _ _ M]at z;cases z) .inr
 ·exact(y.new a o e).elim (λz=>fu _ _ (x.bn _ _ z)) λz=>by rw[eG (x.nh.free z)];exact e
def Ext.off (x:Ext B N H H')(h:B a=none)(h':H a=some o):N a=none:=by
 cases z:N a with
 |none=>rfl
 |some u=>
  rcases x.new _ _ z with z|z
  ·rw[h]at z;cases z
  ·rw[h']at z;cases z
def D9 {Y:Cx}(O:Y.calm=true)(hE:∀x s,¬Y.xe x s)(hg:PG Y tg g)(PP:KU Y.K nT qy g)(hc:JC Y B9 fc)(he:JE Y ya fe)(T:Turn Y.prog Y.w Y.K tg J fp it tn)(PQ:∀i,i<nT->κ[i]? = some none)
  (J1:mM Y.K J N1 items) (hsz:items.length<=sizeLine) (hD:H2 a=none) (So:∀H',(∀b∈fp,H' b=none)->∀b∈fp,ma Y [] H' b)
  (hR:∀s4 M H' N vs,Inv Y [] M H' s4->Ext N1 N H2 H'->N a=none->H' a=some (.lst vs)->IsL Y.K N vs ds->R (.ok .next) s4) (h:CI Y tn fp N1 H2 κ a (hJ qy fc fe κ) items ds s items.length):
  codeAny (model Y.prog Y.w) Y.A (.compLoop (.ListComp ya [⟨tg,gE,B9,0⟩] scope pos) 0 (.ref it) (.ref a) Y.env) R s:=by
 refine wR hE (λn s=>CI Y tn fp N1 H2 κ a (hJ qy fc fe κ) items ds s n) (λn s' h=>?_) _ h;obtain⟨i,N,vs,es,r,M,H',I',ti,hn,hi,rp,lu,x,QI,PR,Nw,PU,er,QJ⟩:=h;have sH:aZ N1 H':=x.bn.trans x.nh;by_cases Ay:i<items.length
 ·obtain⟨go,yl⟩:=(J1 i H' sH).1 items[i] (by simp[Ay]);refine c7 (T.item Y rfl rfl rfl O i [] s' M H' Y.xe I' (So _ hn) ti go) λq s4 ⟨u,eu,hq⟩=>?_;subst eu;refine c7 hq λ_ s5 ⟨xv,H5,I5,rx,y5,t5,Si⟩=>?_;obtain⟨N5,x5,i5⟩:=yl xv H5 y5;obtain⟨x6,c5⟩:=x.both x5;have Ub:(join N N5) a=none:=x6.off QI PR;have QK:aZ (join N N5) H5:=x6.nh;rw[List.drop_eq_getElem_cons Ay]at er;unfold hJ at er;obtain⟨ρ1,e1,er⟩:=oX er;obtain⟨b,e2,er⟩:=oX er;have ju:∀(s9:Shared)(U:St)(H9 N9:Hp)(PX:LV)(QM r9:LD),Inv Y (oq fp s5.heap) U H9 s9->fO Y.K N1 U κ->κ.length=U.length->Ext N1 N9 H2 H9->N9 a=none->H9 a=some (.lst PX) ->
    PX.length<=i+1->IsL Y.K N9 PX QM->hJ qy fc fe κ (items.drop (i+1))=some r9->QM++r9=ds->∃m,m<items.length - i/\CI Y tn fp N1 H2 κ a (hJ qy fc fe κ) items ds s9 m:=λs9 U H9 N9 PX QM r9 I9 Wj l9 x9 n9 h9 v9 i9 Wk Wl=>
   ⟨_,by omega,i+1,N9,PX,QM,r9,U,H9,I9.pins_of λp hp=>by simp at hp,T.keep _ _ _ t5 λb hb o e=>(I9.pin (b,o) (mY _ (jF hb e))).1,λb hb=>by
    obtain⟨o,e,d⟩:=T.obj _ _ t5 b hb;exact(I9.pin (b,o) (mY _ (jF hb e))).2.1,Ay,Wj,l9,x9,n9,h9,v9,i9,Wk,Wl⟩
  refine c7 (hg (oq fp s5.heap) s5 M H5 xv u (λG H6=>H6=H5/\fO Y.K (join N N5) G ρ1/\fO Y.K N1 G κ/\κ.length=G.length) (I5.pinned (So _ Si) (T.obj _ _ t5)) rx
   (PP (join N N5) H5 M κ ρ1 xv items[i] _ PQ (rp.mono (x.bn.trans fu)) QK (i5.mono c5) e1 lu λσ1 r1 r2 l1=>⟨rfl,r1,r2 N1 rp,l1⟩)) λ_ s6 ⟨G,H6,I6,eH,Uc,Ud,l6⟩=>?_
  subst eH;have Sq:H6 a=some (.lst vs):=x5.hh _ _ PR;refine c7 (hc _ s6 G H6 (λc H7=>c=b/\aZ H6 H7) I6 ⟨join N N5,ρ1,b,QK,Uc,e2,λH7 h7=>⟨rfl,h7⟩⟩) λok s7 ⟨H7,I7,eb,h7⟩=>?_;subst eb;have x7:Ext N1 (join N N5) H2 H7:=(x.trans x6).trans (.grow QK h7);cases ok with
  |false=>
   rw[if_neg (by decide)]at er ⊢;exact ju s7 G H7 (join N N5) vs es r I7 Ud l6 x7 Ub (h7 _ _ Sq) (Nat.le_succ_of_le Nw) (PU.mono fu) er QJ
  |true=>
   rw[if_pos rfl]at er ⊢;obtain⟨y,e3,er⟩:=oX er;obtain⟨r',e4,er⟩:=oY er;subst er;refine c7 (he _ s7 G H7 (λv H8=>∃N8,Ext (join N N5) N8 H7 H8/\Is Y.K N8 v y.1) I7 ⟨join N N5,ρ1,y.1,y.2,QK.trans h7,Uc,e3,λv H8 N8 x8 i8 _=>⟨N8,x8,i8⟩⟩) λw8 s8 ⟨v8,H8,I8,r8,N8,x8,i8⟩=>?_;refine c7 (uw _ s8 G H8 (.ref a) [v8] (.ref a) [w8] (λ_ H9=>H9=upd H8 a (.lst (vs++[v8]))) I8 rfl (.cons r8 .nil) ⟨_,vs,v8,rfl,rfl,x8.hh _ _ (h7 _ _ Sq),by omega,rfl⟩) λ_ s9 ⟨_,H9,I9,_,e9⟩=>?_;subst e9;have Ue:=x8.off Ub (h7 _ _ Sq);exact ju s9 G _ N8 (vs++[v8]) (es++[y.1]) r' I9 Ud l6 ((x7.trans x8).upd hD Ue) Ue aB (by rw[uZ,length_singleton];omega) ((PU.mono (fu.trans x8.bn)).append (.cons i8 .nil)) e4 (by rw[append_assoc];exact QJ)
 ·obtain rfl:i=items.length:=by omega
  rw[drop_eq_nil_of_le (vT _)]at er;cases er
  rw[uQ]at QJ;subst QJ;refine c7 (T.done Y rfl rfl rfl O items.length [] s' M H' Y.xe I' (So _ hn) ti ((J1 _ H' sH).2 (vT _))) λq s4 ⟨hq,I9⟩=>?_;subst hq;exact hR s4 M H' N vs I9 x QI PR PU
def qI {X:Cx}(PY:X.calm=true){tg gE ya:Expr}{B9:QD}{scope:Scope}{pos:Pos}{cl:List (Str×Addr)}{N':LS}{nT:Nat}{cap:LN}{qy:FG}{g:TG}{fc:FT}{fe:FE}
  (S:CompSc X scope cl) (cp:oj X N' scope cl nT cap)
  (hg:∀C s H fp,PG (jf X N' scope cl C s H fp) tg g) (PP:KU X.K nT qy g) (hc:∀C s H fp,JC (jf X N' scope cl C s H fp) B9 fc) (he:∀C s H fp,JE (jf X N' scope cl C s H fp) ya fe)
  {ah:AO}{σ:St}{H2:Hp}{s2:Shared}{it:Addr}{fp:List Addr}{tn:Nat->Heap->Prop}{J:It}{N1:Hp}{ρ:Env}{items ds:LD}{E:QV}
  (I2:Inv X ah σ H2 s2) (T:Turn X.prog X.w X.K tg J fp it tn) (K2:tn 0 s2.heap) (f2:∀b∈fp,ma X ah H2 b)
  (rep:fO X.K N1 σ ρ) (sN:aZ N1 H2) (J1:mM X.K J N1 items) (hsz:items.length<=sizeLine) (ec:hJ qy fc fe (dq nT cap ρ) items=some ds) {RR:Value->Addr->Result->Shared->Prop}
  (Wm:∀(Dd C:Addr)(s':Shared)(H' N:Hp)(vs:LV)(m:SV),H2 Dd=none->Inv X ah σ H' s'->s'.heap.Ns C m->ma X ah H' C->Ext N1 N H2 H'->N Dd=some (.lst vs)->IsL X.K N vs ds->RR (.ref Dd) C (.ok .next) s'):
  wq X (newList []) (λAp U=>wq X (newFunctionEnv scope X.env.globals cl [] X.env.qual none .none (some X.env)) (λPZ s₄=>
   codeAny (model X.prog X.w) X.A (.compStart (.ListComp ya [⟨tg,gE,B9,0⟩] scope pos) 0 (.ref it) Ap { PZ with scope:=relabel scope X.env }) (RR Ap PZ.locals) s₄) E U) E s2:=by
 refine wpAny_newObj_type (wpAny_newFunctionEnv S.nocell (by intro y hy;simp at hy) (λh₁ M O=>?_) S.kind);dsimp only at M O ⊢;have hD:H2 s2.heap.objs.size=none:=I2.fresh;have I3:Inv X ah σ (upd H2 s2.heap.objs.size (.lst [])) { s2 with heap:=s2.heap.push { cls:=.type "list",dict:=none,data:=.seq ([]:LU).toArray } }:=I2.lnew (t':=s2.toks) (ys:=[]) (its:=[]) .nil (uN _);generalize hH3:s2.heap.push { cls:=.type "list",dict:=none,data:=.seq ([]:LU).toArray }=g3 at M O I3 ⊢;have hC:g3.objs.size=s2.heap.objs.size+1:=by rw[←hH3,Heap.size_push]
 have K5:∀b o,s2.heap.get? b=some o->g3.get? b=some o:=λb o e=>hH3 ▸ vZ _ e;have G:∀b o,g3.get? b=some o->h₁.get? b=some o:=λb o e=>O.extBut b o (vS (vX e)) (vZ _ e);have Wn:∀b o,g3.get? b=some o->b≠g3.objs.size:=λb o e=>vS (vX e);have Uf:∀b∈fp,∃o,s2.heap.get? b=some o:=λb hb=>let ⟨o,e,_⟩:=T.obj 0 s2.heap K2 b hb;⟨o,e⟩;have Wo:∀b∈fp,b≠s2.heap.objs.size:=λb hb=>let ⟨o,e⟩:=Uf b hb;vS (vX e);have Ug:∀b∈fp,b≠g3.objs.size:=λb hb=>let ⟨o,e⟩:=Uf b hb;Wn b o (K5 b o e);have Uh:∀x c,X.env.cells.lookup x=some c->c≠g3.objs.size:=λx c e=>by
  obtain⟨v,z⟩:=I3.cell x c e;exact vS z.lt
 have Wp:(upd H2 s2.heap.objs.size (HO.lst [])) g3.objs.size=none:=I3.hok.fresh (vT _);have stk:∀b∈E8 X.stack,∃o,s2.heap.get? b=some o:=λb hb=>by
  obtain⟨_,o,ho,_⟩:=(I2.stack).mem hb;exact⟨o,ho⟩
 -- the block's context
 let Y:Cx:=jf X N' scope cl g3.objs.size { s2 with heap:=g3 } (upd H2 s2.heap.objs.size (.lst [])) fp;have ok:Y.Ok:=by
  refine⟨I2.ok.mod,?_,I2.ok.glob,I2.ok.blt,vT _,λx y c e1 e2=>I2.ok.inj x y c (S.sub x c e1) (S.sub y c e2),λx h=>S.has x h,λx c h=>absurd h uX,I2.ok.hd,I2.ok.frames,.inl rfl,λb hb=>⟨Ug b hb,λx c e=>(f2 b hb).2.2.2.2.1 x c (S.sub x c e)⟩,λb o e=>?_,?_,λb o e hb=>?_,λb hb hz=>?_,I3.stack,λb hb=>I3.stkFree b hb⟩
  ·show(relabel scope X.env).kind=.function;exact S.kind
  ·exact I3.bs b o e
  ·exact vR I3.ok.bsz I3.sz
  ·have h1:=(f2 b hb).2.2.2.1;rcases h1 with z|z
   ·exact I2.ok.noex b o e z
   ·exact absurd (vQ (vX e) (vR I2.ok.bsz z)) (Nat.lt_irrefl _)
  ·rcases vP (I2.stkSub b hz)with z|z
   ·exact(f2 b hb).2.1 z
   ·exact(f2 b hb).2.2.1 z
 have I4:Inv Y [] (tZ nT cap σ) (upd H2 s2.heap.objs.size (.lst [])) { s2 with heap:=h₁,toks:=s2.toks+([]:List (Str×Value)).length }:=by
  refine⟨ok,rfl,I2.bare,Un.kept G,⟨_,M,λj x v e1 e2 e3=>?_⟩,λx c e=>?_,Wp,λx c e=>I3.freeC x c (S.sub x c e),λp hp=>absurd (show p∈[]from hp) not_mem_nil,I3.hok.kept G,?_⟩
  ·obtain⟨k,i,rfl,h1,h2⟩:=wS e2;obtain⟨y,g1,g2,Ui,g4,g5⟩:=cp.get h1;have Uj:N'[nT+k]? = some x:=e1;rw[g1]at Uj;cases Uj;have Sm:σ[i]? = some (some v):=by
    cases q:σ[i]? with
    |none=>rw[q]at h2;cases h2
    |some z=>rw[q]at h2;have:z=some v:=h2;rw[this]
   obtain⟨m,_,hl⟩:=I3.loc;obtain⟨u,r,l⟩:=hl i _ v g2 Sm (Ui.elim (λz=>.inr (.inl z)) λz=>.inr (.inr z));refine⟨u,r,?_⟩;rcases l with⟨l,_⟩|⟨_,c,lc,ic⟩
   ·rcases Ui with z|z<;>(rw[z]at l;cases l)
   ·refine .inr ⟨g4,c,by show cl.lookup _=some c;rw[g5];exact lc,?_⟩;obtain⟨o,ho,hd⟩:=ic;exact⟨o,G _ _ ho,hd⟩
  ·obtain⟨v,o,ho,hd⟩:=I3.cell x c (S.sub x c e);exact⟨v,o,G _ _ ho,hd⟩
  ·show(tZ nT cap σ).length=N'.length;unfold tZ;rw[cp.len];simp
 have loop:∀U:Shared,U={ s2 with heap:=h₁,toks:=s2.toks+([]:List (Str×Value)).length }->codeAny (model Y.prog Y.w) Y.A (.compLoop (.ListComp ya [⟨tg,gE,B9,0⟩] scope pos) 0 (.ref it) (.ref s2.heap.objs.size) Y.env) (RR (.ref s2.heap.objs.size) g3.objs.size) U:=by
  rintro U rfl;refine D9 (Y:=Y) PY (λ_ _ z=>z) (hg _ _ _ _) PP (hc _ _ _ _) (he _ _ _ _) T (λi hi=>?_) J1 hsz hD (λH' hn b hb=>⟨hn b hb,Ug b hb,ok.exfs b hb,.inl hb,λx c e=>(f2 b hb).2.2.2.2.1 x c (S.sub x c e),λp hp=>absurd (show p∈[]from hp) not_mem_nil⟩) (λs4 σ' H' N vs I9 x QI PR PU=>?_)
   ⟨0,N1,[],[],ds,tZ nT cap σ,_,I4,T.keep _ _ _ K2 λb hb o e=>G _ _ (K5 _ _ e),λb hb=>?_,uN _,rep.caps,?_,(Ext.refl sN).upd hD (sN.free hD),sN.free hD,aB,uN _,.nil,by simpa using ec,rfl⟩
  ·unfold dq;rw[getElem?_append_left (by simpa using hi),getElem?_replicate,if_pos hi]
  ·obtain⟨m,hm,_⟩:=I9.loc;have k:aZ N (upd N s2.heap.objs.size (.lst vs)):=λa o e=>by rw[aG (λz=>by subst z;rw[QI]at e;cases e)];exact e
   refine Wm s2.heap.objs.size g3.objs.size s4 H' (upd N s2.heap.objs.size (.lst vs)) vs m hD (I2.call' (ch:=fp) I9.os ((Un.laid K5 (vT _) hD).trans I9.base) I9.hok I9.bare λb hb=>⟨(f2 b hb).2.2.2.1,(f2 b hb).2.1,(f2 b hb).2.2.2.2.1,(f2 b hb).2.2.2.2.2⟩) hm (I2.fpOk (by rw[hC];exact le_succ _) I9.free) ⟨x.hh,x.bn.trans k,λa o e=>?_,λa o e=>?_⟩ aB (PU.mono k)
   ·by_cases z:a=s2.heap.objs.size
    ·subst z;rw[aB]at e;cases e;exact PR
    ·rw[aG z]at e;exact x.nh _ _ e
   ·by_cases z:a=s2.heap.objs.size
    ·subst z;exact .inr hD
    ·rw[aG z]at e;exact x.new _ _ e
  ·rw[aG (Wo b hb)];exact(f2 b hb).1
  ·unfold dq tZ;simp
 exact codeAny_compStart_list (loop _ rfl) (T.self _ 0 _ _ _ (T.keep _ _ _ K2 λb hb o e=>G _ _ (K5 _ _ e)) (loop _ rfl))
def IS (G:X.calm=true) 
  (S:CompSc X scope cl) (cp:oj X N' scope cl nT cap) (hi:JI X tg gE fi)
  (hg:∀C s H fp,PG (jf X N' scope cl C s H fp) tg g) (O:KU X.K nT qy g) (hc:∀C s H fp,JC (jf X N' scope cl C s H fp) B9 fc) (he:∀C s H fp,JE (jf X N' scope cl C s H fp) ya fe)
  (hs:∀x,foldedSetIterable gE X.env x=pure x:=by intro _;rfl):
  JE X (.ListComp ya [⟨tg,gE,B9,0⟩] scope pos) (bO fi nT cap qy fc fe):=by
 intro ah s σ H Q I h;obtain⟨B,ρ,d,b,sB,rep,e,q⟩:=h;obtain⟨items,ei,e⟩:=oX e;have hsz:items.length<=sizeLine:=Decidable.byContradiction λz=>by rw[if_neg z]at e;cases e
 rw[if_pos hsz]at e;obtain⟨ds,ec,e⟩:=oY e;cases e
 rw[eval_ListComp];refine wpAny_comprehension_free (use:=none) rfl hs S.clos S.kind S.names (c7 (hi ah s σ H (λJ H2=>∃N1,Ext B N1 H H2/\mM X.K J N1 items) I ⟨B,ρ,items,sB,rep,ei,λJ H2 N1 M U=>⟨N1,M,U⟩⟩) λv s1 h1=>c7 h1 λTY s2 h2=>?_);obtain⟨it,fp,tn,J,H2,e,I2,T,K2,f2,N1,M,U⟩:=h2;subst e;refine qI G S cp hg O hc he I2 T K2 f2 (rep.mono M.bn) M.nh U hsz ec (RR:=λAp C=>compPost (model X.prog X.w) X.A X.xe none (EP X ah σ Q) Ap C) ?_;intro Dd C s' H' N vs m hD I' hm fC x hN hl;refine⟨m,hm,λh' hs'=>⟨.ref Dd,H',?_,rfl,q _ H' N (M.trans x) (.lst (gT.of hN) hl) λ_=>⟨Dd,vs,ds,rfl,rfl,M.hh.free hD,hN,hl⟩⟩⟩;obtain⟨c0,c1,c2,c3,c4,c5⟩:=fC;exact I'.turned (t':=s'.toks) (λb o hb e=>(hs'.2 b hb).trans e) c0 c1 c3 c4 c5
def IT (M:X.calm=true) 
  (hN:X.N.Nodup) (Wq:X.N[i]? = some y) (hy:X.env.kindOf y=some .local)
  (Wr:swapsWith (.ListComp ya [⟨tg,G,O,0⟩] scope pos) (some (.Name y py)) spos.line X.env=pure true)
  (S:CompSc X scope cl) (cp:oj X N' scope cl nT cap) (hi:JI X tg G fi)
  (hg:∀C s H fp,PG (jf X N' scope cl C s H fp) tg g) (PP:KU X.K nT qy g) (hc:∀C s H fp,JC (jf X N' scope cl C s H fp) O fc) (he:∀C s H fp,JE (jf X N' scope cl C s H fp) ya fe)
  (hs:∀x,foldedSetIterable G X.env x=pure x:=by intro _;rfl):
  JS X (.Assign [.Name y py] (.ListComp ya [⟨tg,G,O,0⟩] scope pos) spos) (ba i (bO fi nT cap qy fc fe)):=by
 intro ah s σ H E I h;have h2:Dt (tD X.K (bO fi nT cap qy fc fe)) (jv i) E σ H:=BN h;obtain⟨B,ρ,d,b,sB,rep,e,q⟩:=h2;obtain⟨items,ei,e⟩:=oX e;have hsz:items.length<=sizeLine:=Decidable.byContradiction λz=>by rw[if_neg z]at e;cases e
 rw[if_pos hsz]at e;obtain⟨ds,ec,e⟩:=oY e;cases e
 rw[exec_Assign_Name_used _ _ _ _ Wr];refine wX (wpAny_standAt (wX ?_));show wpAny _ _ (do let _ ←comprehension (.ListComp ya [⟨tg,G,O,0⟩] scope pos) scope X.env _ (newList []) false (eval G X.env) (some (assign (.Name y py) X.env))) _ _ s;refine wX (wpAny_mono (wpAny_comprehension_free (use:=some (assign (.Name y py) X.env)) (Q:=λ_ s'=>SP X ah E .next s') rfl hs S.clos S.kind S.names
  (c7 (hi ah s σ H (λJ H2=>∃N1,Ext B N1 H H2/\mM X.K J N1 items) I ⟨B,ρ,items,sB,rep,ei,λJ H2 N1 U j1=>⟨N1,U,j1⟩⟩) λv s1 h1=>c7 h1 λTY s2 h2=>?_)) (λ_ s' hq=>wY (wY hq)) λ_ _ e=>e)
 obtain⟨it,fp,tn,J,H2,e,I2,T,K2,f2,N1,U,j1⟩:=h2;subst e;refine qI M S cp hg PP hc he I2 T K2 f2 (rep.mono U.bn) U.nh j1 hsz ec (RR:=λAp C=>compPost (model X.prog X.w) X.A X.xe (some (assign (.Name y py) X.env)) (λ_ s'=>SP X ah E .next s') Ap C) ?_;intro Dd C s' H' N vs m hD I' hm fC x Uk hl;show wpAny _ _ (assign (.Name y py) X.env (.ref Dd)) _ _ s';obtain⟨c0,c1,c2,c3,c4,c5⟩:=fC;refine wpAny_assign_Name (uo I' hN Wq (.inl hy) (r:=show be (.ref Dd) (.ref Dd)from rfl) (λs9 I9 ⟨a,sb,ha⟩=>?_) (.inr hy));have nC:C≠a:=by
  rcases ha with z|z
  ·rw[z];exact c1
  ·exact λw=>c4 y a z w.symm
 refine⟨m,hm.sameBut sb nC,λh' hs'=>⟨_,H',?_,q _ H' N (U.trans x) (.lst (gT.of Uk) hl) λ_=>⟨Dd,vs,ds,rfl,rfl,U.hh.free hD,Uk,hl⟩⟩⟩;exact I9.turned (t':=s9.toks) (λb o hb e=>(hs'.2 b hb).trans e) c0 c1 c3 c4 c5
section
variable {X:Cx}{a b c e:Expr}{pos:Pos}
def PE.to (h:PE X e t)(k:∀σ H Q,t' σ H Q->t σ H Q):PE X e t':=λah s σ H Q I q=>h ah s σ H Q I (k σ H Q q)
def PT.to (h:PT X e t)(k:∀σ H Q,t' σ H Q->t σ H Q):PT X e t':=λah s σ H Q I q=>h ah s σ H Q I (k σ H Q q)
def PW.to (h:PW X e t)(k:∀σ H Q,t' σ H Q->t σ H Q):PW X e t':=λG ah s σ H Q I q=>h G ah s σ H Q I (k σ H Q q)
def PA.to (h:PA X es t)(k:∀σ H Q,t' σ H Q->t σ H Q):PA X es t':=λpos ah s σ H Q I q=>h pos ah s σ H Q I (k σ H Q q)
def PS.to {st:Stmt}{t t':TS}(h:PS X st t)(k:∀E σ H,t' E σ H->t E σ H):PS X st t':=λah s σ H E I q=>h ah s σ H E I (k E σ H q)
def tU.to {st:List Stmt}{t t':TS}(h:tU X st t)(k:∀E σ H,t' E σ H->t E σ H):tU X st t':=λah s σ H E I q=>h ah s σ H E I (k E σ H q)
def PI.to (h:PI X tg it t)(k:∀σ H Q,t' σ H Q->t σ H Q):PI X tg it t':=λah s σ H Q I q=>h ah s σ H Q I (k σ H Q q)
def DA {K:Frag}{d:D}{v:V}(i:∀B,Is K B v d){σ:St}{H:Hp}{Q:VK}(h:tD K (fC d) σ H Q):tC v σ H Q:=by
 obtain⟨B,ρ,d',b,s,r,e,q⟩:=h;cases e
 exact q.one s (i B)
def pv (M:X.N[i]? = some x:=by rfl)(hv:L1 X.env.scope x:=by first|exact Or.inl rfl|exact Or.inr (Or.inl rfl)|exact Or.inr (Or.inr rfl))(hd:(x == ("__debug__" : Str))=false:=by decide)
  (G:(x == ("__classdict__" : Str))=false:=by decide):PE X (.Name x pos) (om i):=q9 M hv hd G
def ak (i:Nat)(G:PE X (.Name x pos) (om i):=by exact pv):JE X (.Name x pos) (am i):=PE.to G λ_ _ _ h=>Mo h
def aA:JE X (.Constant (.int i) j pos) (fC (.int i)):=PE.to L3 λ_ _ _ h=>DA (λ_=>.int i) h
def cZ:JE X (.Constant (.bool i) j pos) (fC (.bl i)):=PE.to Oi λ_ _ _ h=>DA (λ_=>.bl i) h
def da:JE X (.Constant .none j pos) (fC .non):=PE.to L4 λ_ _ _ h=>DA (λ_=>.non) h
def a7:JE X (.Constant (.str x) j pos) (fC (.str x)):=PE.to L5 λ_ _ _ h=>DA (λ_=>.str x) h
def IU (G:Gl X x)(hm:X.mg x=some u)(r:be v u)(i:∀B,Is X.K B v d)(hd:(x == ("__debug__" : Str))=false:=by decide):JE X (.Name x pos) (fC d):=PE.to (qi G hm r hd) λ_ _ _ h=>DA i h
def bg (G:dL X (binaryOp op) (rD X.K f))(ha:JE X a fa)(hb:JE X b fb):JE X (.BinOp a op b pos) (f2 f fa fb):=PE.to (Oz G ha hb) λ_ _ _ h=>IH h
def KW (G:Oy X (unaryOp op) (Rv X.K f))(ha:JE X a fa):JE X (.UnaryOp op a pos) (f1 f fa):=PE.to (O0 G ha) λ_ _ _ h=>Rw h
def bP (G:dL X (compareOp op) (rD X.K f))(ha:JE X a fa)(hb:JE X b M)(hm:behindInMarks op b=false:=by first|exact km _ (by decide) (by decide)|rfl):JE X (.Compare a [op] [b] pos) (f2 f fa M):=PE.to (Iv G ha hb hm) λ_ _ _ h=>IH h
def wT {K:Frag}{f:FE}{σ:St}{H:Hp}{Q:Bool->Hp->Prop}(h:AE K (aT f) σ H Q):tD K f σ H λx H'=>∃k,x=.bl k/\Q k H':=by
 obtain⟨B,ρ,c,s,r,e,q⟩:=h;unfold aT at e;split at e
 ·rename_i O G M;cases e
  refine⟨B,ρ,.bl c,G,s,r,M,λv H' N x i _=>?_⟩;cases i
  exact⟨c,rfl,q H' x.hh⟩
 ·cases e
def aC (G:dL X (compareOp op) (rD X.K f))(ha:JE X a fa)(hb:JE X b fb)(hm:behindInMarks op b=false:=by first|exact km _ (by decide) (by decide)|rfl):JT X (.Compare a [op] [b] pos) (aT (f2 f fa fb)) :=
 PT.to (BF G ha hb hm) λ_ _ _ h=>IH (wT h)
def bo (h:JE X e f)(he:∀G,isTrue e X.env G=(do let v ←G;standAt e.pos;holding [v] (truthy v)):=by intro _;rfl):JT X e (aT f):=PT.to (L8 h he) λ_ _ _ q=>wT q
@[simp] noncomputable def i7 (f g:D->D->OB)(fa G M:FE):FE:=λρ=>(fa ρ).bind λx=>(G ρ).bind λy=>match f x.1 y.1 with
 |some (.bl true,_)=>(M ρ).bind λz=>g y.1 z.1
 |some (.bl false,_)=>some (.bl false,false)
 |_=>none
def yv {K:Frag}{f g:D->D->OB}{fa fb fc:FE}{σ:St}{H:Hp}{Q:VK}(h:tD K (i7 f g fa fb fc) σ H Q):A3 (rD K f) (rD K g) (tD K fa) (tD K fb) (tD K fc) σ H Q:=by
 obtain⟨B,ρ,d,b,s,r,e,q⟩:=h;obtain⟨x,ex,e⟩:=oX e;obtain⟨y,ey,e⟩:=oX e;refine⟨B,ρ,x.1,x.2,s,r,ex,λv H1 N1 O i1 _=>⟨N1,ρ,y.1,y.2,O.nh,r.mono O.bn,ey,λv2 H2 N2 G i2 _=>?_⟩⟩;split at e
 ·rename_i T U;obtain⟨z,ez,e⟩:=oX e;refine⟨N2,x.1,y.1,.bl true,T,G.nh,i1.mono G.bn,i2,U,λv3 H3 N3 M i3 _=>?_⟩;cases i3
  refine⟨true,rfl,?_⟩;rw[if_pos rfl];refine⟨N3,ρ,z.1,z.2,M.nh,r.mono (O.bn.trans (G.bn.trans M.bn)),ez,λv4 H4 N4 x4 i4 _=>⟨N4,y.1,z.1,d,b,x4.nh,i2.mono (M.bn.trans x4.bn),i4,e,?_⟩⟩;exact q.into ((O.trans G).trans (M.trans x4))
 ·rename_i T U;cases e
  refine⟨N2,x.1,y.1,.bl false,T,G.nh,i1.mono G.bn,i2,U,λv3 H3 N3 M i3 _=>?_⟩;cases i3
  refine⟨false,rfl,?_⟩;rw[if_neg (by decide)];exact(q.into ((O.trans G).trans M)).one M.nh (.bl false)
 ·cases e
def qJ (M:dL X (compareOp op) (rD X.K f))(G:dL X (compareOp Qa) (rD X.K g))(ha:JE X a fa)(hb:JE X b fb)(hc:JE X c fc)
  (hm:lastMarks [op,Qa] [b,c]=false:=by with_unfolding_all rfl):JE X (.Compare a [op,Qa] [b,c] pos) (i7 f g fa fb fc):=PE.to (EN M G ha hb hc hm) λ_ _ _ h=>yv h
def yw (M:dL X (compareOp op) (rD X.K f))(G:dL X (compareOp Qa) (rD X.K g))(ha:JE X a fa)(hb:JE X b fb)(hc:JE X c fc)
  (hm:lastMarks [op,Qa] [b,c]=false:=by with_unfolding_all rfl):JT X (.Compare a [op,Qa] [b,c] pos) (aT (i7 f g fa fb fc)):=PT.to (EO M G ha hb hc hm) λ_ _ _ h=>yv (wT h)
def IV {K:Frag}{f g:FT}{σ:St}{H:Hp}{Q:Bool->Hp->Prop}(h:AE K (eU f g) σ H Q):Oj (AE K f) (AE K g) σ H Q:=by
 obtain⟨B,ρ,c,s,r,e,q⟩:=h;unfold eU at e;cases G:f ρ with
 |none=>rw[G]at e;cases e
 |some k=>
  rw[G]at e;refine⟨B,ρ,k,s,r,G,λM h1=>?_⟩;cases k with
  |true=>rw[if_pos rfl];exact⟨B,ρ,c,s.trans h1,r,e,λH2 h2=>q H2 (h1.trans h2)⟩
  |false=>rw[if_neg (by decide)];cases e;exact q M h1
def Ms {K:Frag}{f g:FT}{σ:St}{H:Hp}{Q:Bool->Hp->Prop}(h:AE K (dQ f g) σ H Q):To (AE K f) (AE K g) σ H Q:=by
 obtain⟨B,ρ,c,s,r,e,q⟩:=h;unfold dQ at e;cases G:f ρ with
 |none=>rw[G]at e;cases e
 |some k=>
  rw[G]at e;refine⟨B,ρ,k,s,r,G,λM h1=>?_⟩;cases k with
  |false=>rw[if_neg (by decide)];exact⟨B,ρ,c,s.trans h1,r,e,λH2 h2=>q H2 (h1.trans h2)⟩
  |true=>rw[if_pos rfl];cases e;exact q M h1
def IW {K:Frag}{f:FT}{σ:St}{H:Hp}{Q:Bool->Hp->Prop}(h:AE K (bU f) σ H Q):Ol (AE K f) σ H Q:=by
 obtain⟨B,ρ,c,s,r,e,q⟩:=h;obtain⟨k,ek,e⟩:=oY e;subst e;exact⟨B,ρ,k,s,r,ek,λG h1=>q G h1⟩
variable {ax:QD}
def ib (ha:JT X a f):JW X (.BoolOp .And [a] pos) f:=Io ha
def dr (ha:JT X a f):JW X (.BoolOp .Or [a] pos) f:=L9 ha
def jG (ha:JT X a f)(hb:JW X (.BoolOp .And (b::ax) pos) g):JW X (.BoolOp .And (a::b::ax) pos) (eU f g):=PW.to (LA ha hb) λ_ _ _ h=>IV h
def dG (ha:JT X a f)(hb:JW X (.BoolOp .Or (b::ax) pos) g):JW X (.BoolOp .Or (a::b::ax) pos) (dQ f g):=PW.to (Om ha hb) λ_ _ _ h=>Ms h
def fP (h:JW X e f):JT X e f:=h.pt
def bS (ha:JT X a f):JT X (.UnaryOp .Not a pos) (bU f):=PT.to (LB ha) λ_ _ _ h=>IW h
@[simp] noncomputable def ie (f g:FE):FE:=λρ=>match f ρ with|some (.bl true,_)=>g ρ|some (.bl false,_)=>some (.bl false,false)|_=>none
@[simp] noncomputable def Ft (f g:FE):FE:=λρ=>match f ρ with|some (.bl true,_)=>some (.bl true,false)|some (.bl false,_)=>g ρ|_=>none
@[simp] noncomputable def Mt (f:FE):FE:=λρ=>match f ρ with|some (.bl c,_)=>some (.bl (!c),false)|_=>none
def du (ha:JE X a f)(hb:JE X (.BoolOp .And (b::ax) pos) g):JE X (.BoolOp .And (a::b::ax) pos) (ie f g):=PE.to (LF ha hb) λσ H Q h=>by
 obtain⟨B,ρ,d,k,s,r,e,q⟩:=h;unfold ie at e;split at e
 ·rename_i O M;refine⟨B,ρ,_,_,s,r,M,λv T N1 G i1 _=>?_⟩;cases i1
  refine⟨true,rfl,?_⟩;rw[if_pos rfl];exact⟨N1,ρ,d,k,G.nh,r.mono G.bn,e,q.into G⟩
 ·rename_i O M;cases e
  refine⟨B,ρ,_,_,s,r,M,λv T N1 G i1 _=>?_⟩;cases i1
  refine⟨false,rfl,?_⟩;rw[if_neg (by decide)];exact(q.into G).one G.nh (.bl false)
 ·cases e
def qK (ha:JE X a f)(hb:JE X (.BoolOp .Or (b::ax) pos) g):JE X (.BoolOp .Or (a::b::ax) pos) (Ft f g):=PE.to (Oq ha hb) λσ H Q h=>by
 obtain⟨B,ρ,d,k,s,r,e,q⟩:=h;unfold Ft at e;split at e
 ·rename_i O M;cases e
  refine⟨B,ρ,_,_,s,r,M,λv T N1 G i1 _=>?_⟩;cases i1
  refine⟨true,rfl,?_⟩;rw[if_pos rfl];exact(q.into G).one G.nh (.bl true)
 ·rename_i O M;refine⟨B,ρ,_,_,s,r,M,λv T N1 G i1 _=>?_⟩;cases i1
  refine⟨false,rfl,?_⟩;rw[if_neg (by decide)];exact⟨N1,ρ,d,k,G.nh,r.mono G.bn,e,q.into G⟩
 ·cases e
def c9 (h:JE X a f):JE X (.BoolOp op [a] pos) f:=LC h
def Mu (ha:JE X a f):JE X (.UnaryOp .Not a pos) (Mt f):=PE.to (LG ha) λσ H Q h=>by
 obtain⟨B,ρ,d,k,s,r,e,q⟩:=h;unfold Mt at e;split at e
 ·rename_i c O M;cases e
  refine⟨B,ρ,_,_,s,r,M,λv T N1 G i1 _=>?_⟩;cases i1
  exact⟨c,rfl,(q.into G).one G.nh (.bl _)⟩
 ·cases e
variable {es:QD}
def ao:JA X [] aj:=PA.to je λ_ _ _ h=>IJ h
def ai (ha:JE X e f)(G:JA X es g)(hs:starEach (e::es) X.env=(false,eval e X.env)::starEach es X.env:=by rfl):JA X (e::es) (ag f g):=PA.to (gF ha G hs) λ_ _ _ h=>Fk h
@[simp] noncomputable def aX:LD->OB:=λds=>if ds.length<=sizeLine then some (.tup ds,false)else none
@[simp] noncomputable def cx:LD->OB:=λds=>if ds.length<=sizeLine then some (.lst ds,true)else none
def bc {G}(h:JA X es f):JE X (.Tuple es G pos) (fA aX f):=PE.to (A6 h) λσ H Q q=>by
 obtain⟨B,ρ,ds,s,r,e,k⟩:=II q;refine⟨B,ρ,ds,s,r,e,λvs M N1 G i1=>?_⟩;obtain⟨O,T,d,b,s2,i2,e2,k2⟩:=k vs M N1 G i1;unfold aX at e2;split at e2
 ·rename_i hz;cases e2
  refine⟨by rw[i2.length];exact hz,λp hp=>k2 _ _ (upd O p (.tup vs)) (.laid s2 hp) (.tup (js.of aB) (i2.mono (Ext.laid s2 hp).bn)) (by simp)⟩
 ·cases e2
def cP (h:JA X es f):JE X (.List es pos) (fA cx f):=PE.to (Mc h) λσ H Q q=>by
 obtain⟨B,ρ,ds,s,r,e,k⟩:=II q;refine⟨B,ρ,ds,s,r,e,λvs M N1 O i1=>?_⟩;obtain⟨T,G,d,b,s2,i2,e2,k2⟩:=k vs M N1 O i1;unfold cx at e2;split at e2
 ·rename_i hz;cases e2
  refine⟨by rw[i2.length];exact hz,λp hp=>k2 _ _ (upd T p (.lst vs)) (.laid s2 hp) (.lst (gT.of aB) (i2.mono (Ext.laid s2 hp).bn)) λ_=>⟨p,vs,G,rfl,rfl,hp,aB,i2.mono (Ext.laid s2 hp).bn⟩⟩
 ·cases e2
end
section
variable {X:Cx}
def jg (h:dL X f r)(k:∀x y H Q,r' x y H Q->r x y H Q):dL X f r':=λah s σ H x y v u Q I G M q=>h ah s σ H x y v u Q I G M (k x y H Q q)
noncomputable def EB (f g:D->D->OB):D->D->OB:=λx y=>match f x y with|some r=>some r|none=>g x y
def oy (h:dL X s (rD X.K f))(h':dL X s (rD X.K g)):dL X s (rD X.K (EB f g)):=by
 intro ah st σ H x y v u Q I G M q;obtain⟨B,dx,O,d,b,T,U,iy,e,q⟩:=q;unfold EB at e;split at e
 ·rename_i r ef;cases e
  exact h ah st σ H x y v u Q I G M ⟨B,dx,O,_,_,T,U,iy,ef,q⟩
 ·exact h' ah st σ H x y v u Q I G M ⟨B,dx,O,_,_,T,U,iy,e,q⟩
@[simp] noncomputable def Ar (C:Int->Int->Bool)(g:Int->Int->D):D->D->OB
 |.int i,.int j=>if C i j=true then some (g i j,false)else none
 |_,_=>none
def wU (h:dL X s (rI C g))(G:∀i j,C' i j=true->C i j)(M:∀i j B,Is X.K B (g i j) (g' i j)):dL X s (rD X.K (Ar C' g')):=by
 refine jg h λx y H Q q=>?_;obtain⟨B,dx,dy,d,b,O,T,U,e,q⟩:=q;cases T<;>try (cases e;done)
 cases U<;>try (cases e;done)
 rename_i i j;simp only[Ar]at e;split at e
 ·rename_i hc;cases e
  exact⟨i,j,rfl,rfl,G i j hc,q.one O (M i j B)⟩
 ·cases e
def iA (h:dL X s (HY g))(G:∀i j B,Is X.K B (g i j) (g' i j)):dL X s (rD X.K (Ar (λ_ _=>true) g')):=by
 refine jg h λx y H Q q=>?_;obtain⟨B,dx,U,d,b,M,O,T,e,q⟩:=q;cases O<;>try (cases e;done)
 cases T<;>try (cases e;done)
 rename_i i j;simp only[Ar,if_true]at e;cases e
 exact⟨i,j,rfl,rfl,q.one M (G i j B)⟩
abbrev Mv:D->D->OB:=Ar (λ_ _=>true) λi j=>.int (i+j)
abbrev qL:D->D->OB:=Ar (λ_ _=>true) λi j=>.int (i - j)
abbrev OM:D->D->OB:=Ar (λi j=>decide ((-18446744073709551616<i/\i<18446744073709551616)∨(-18446744073709551616<j/\j<18446744073709551616))) λi j=>.int (i*j)
abbrev mP:D->D->OB:=Ar (λ_ j=>decide (0<j/\j<1073741824)) λi j=>.int (i / j)
abbrev cq:D->D->OB:=Ar (λ_ j=>decide (0<j)) λi j=>.int (i % j)
abbrev ON:D->D->OB:=Ar (λ_ _=>true) λi j=>.int (Builtin.bitAnd i j)
abbrev T3:D->D->OB:=Ar (λ_ _=>true) λi j=>.bl (decide (i<j))
abbrev Rx:D->D->OB:=Ar (λ_ _=>true) λi j=>.bl (decide (i<=j))
abbrev EC:D->D->OB:=Ar (λ_ _=>true) λi j=>.bl (decide (j<i))
abbrev Q3:D->D->OB:=Ar (λ_ _=>true) λi j=>.bl (decide (j<=i))
def OO:dL X (binaryOp .Add) (rD X.K Mv):=iA LR λ_ _ _=>.int _
def yx:dL X (binaryOp .Sub) (rD X.K qL):=iA LW λ_ _ _=>.int _
def OP:dL X (binaryOp .Mult) (rD X.K OM):=wU LX (λi j h=>by have h:=PN h;unfold Ir;omega) λ_ _ _=>.int _
def qM:dL X (binaryOp .FloorDiv) (rD X.K mP):=wU Iu (λi j h=>by have h:=PN h;unfold O1;omega) λ_ _ _=>.int _
def dH:dL X (binaryOp .Mod) (rD X.K cq):=wU LY (λ_ _ h=>PN h) λ_ _ _=>.int _
def OQ:dL X (binaryOp .BitAnd) (rD X.K ON):=iA LZ λ_ _ _=>.int _
def Ry:dL X (compareOp .Lt) (rD X.K T3):=iA O2 λ_ _ _=>.bl _
def Rz:dL X (compareOp .LtE) (rD X.K Rx):=iA O3 λ_ _ _=>.bl _
def DB:dL X (compareOp .Gt) (rD X.K EC):=iA O4 λ_ _ _=>.bl _
def OR:dL X (compareOp .GtE) (rD X.K Q3):=iA O5 λ_ _ _=>.bl _
@[simp] noncomputable def NP (C:Str->Str->Bool)(g:Str->Str->D):D->D->OB
 |.str i,.str j=>if C i j=true then some (g i j,false)else none
 |_,_=>none
abbrev IX:D->D->OB:=NP (λi j=>decide (i.length+j.length<=sizeLine)) λi j=>.str (i++j)
abbrev Q4:D->D->OB:=NP (λ_ _=>true) λi j=>.bl (!decide (j.cps.toList<i.cps.toList))
def Mw:dL X (binaryOp .Add) (rD X.K IX):=by
 refine jg A4 λx y H Q q=>?_;obtain⟨B,dx,T,d,b,G,M,O,e,q⟩:=q;cases M<;>try (cases e;done)
 cases O<;>try (cases e;done)
 rename_i i j;simp only[IX,NP]at e;split at e
 ·rename_i hc;cases e
  exact⟨i,j,rfl,rfl,PN hc,q.one G (.str _)⟩
 ·cases e
def OS:dL X (compareOp .LtE) (rD X.K Q4):=by
 intro ah s σ H x y v u Q I G M q;obtain⟨B,dx,dy,d,b,O,T,U,e,q⟩:=q;cases T<;>try (cases e;done)
 cases U<;>try (cases e;done)
 rename_i i j;simp only[Q4,NP,if_true]at e;cases e
 obtain⟨t,rfl⟩:=G;obtain⟨t',rfl⟩:=M;exact PySem.P.le_str ⟨.bl _,H,I,rfl,q.one O (.bl _)⟩
end
section
variable {X:Cx}{a b c e:Expr}{pos:Pos}{st:Stmt}{ax:List Stmt}
def gW:tY X [] aP:=tU.to BB λ_ _ _ h=>Fo h
def aq (h1:JS X st g)(h2:tY X ax h):tY X (st::ax) (a8 g h):=tU.to (EI h1 h2) λ_ _ _ q=>IK q
def bj (h1:JS X st g):tY X [st] g:=BC h1
def hU {c:Expr}{a b:List Stmt}{G:FT}{g h:FS}(hc:JT X c G)(ha:tY X a g)(hb:tY X b h):JS X (.If c a b pos) (cN G g h):=PS.to (KE hc ha hb) λ_ _ _ q=>Mp q
def Fu (he:JE X e f):JS X (.Return (some e) pos) (aE f):=PS.to (EJ he) λ_ _ _ q=>IL q
def iU (i:Nat)(G:PE X (.Name x p) (om i):=by exact pv):JS X (.Return (some (.Name x p)) pos) (hG i):=PS.to (EJ G) λ_ _ _ q=>Fp q
def aI (G:X.N.Nodup)(he:JE X e f)(hi:X.N[i]? = some x:=by rfl)(hx:EG X.env.scope x:=by first|exact Or.inl rfl|exact Or.inr rfl)(hs:swapsWith e (some (.Name x p)) pos.line X.env=pure false:=by rfl)
  (hf:X.fn x=true∨X.env.scope.names.lookup x=some .local:=by first|exact .inl rfl|exact .inr rfl):JS X (.Assign [.Name x p] e pos) (ba i f):=PS.to (wG G hi hx he hs hf) λ_ _ _ q=>BN q
def IY (G:X.N.Nodup)(he:JE X e f)(hi:X.N[i]? = some x:=by rfl)(hx:EG X.env.scope x:=by first|exact Or.inl rfl|exact Or.inr rfl)(hs:swapsWith e (some (.Name x p)) pos.line X.env=pure false:=by rfl)
  (hf:X.fn x=true∨X.env.scope.names.lookup x=some .local:=by first|exact .inl rfl|exact .inr rfl):JS X (.Assign [.Name x p] e pos) (yr i f):=PS.to (wG G hi hx he hs hf) λ_ _ _ q=>Fq q
def qN (n:Nat)(hp:PassesOwn (model X.prog X.w) X.A X.env X.xe)(hc:JT X c fc)(hb:tY X body g):JS X (.While c body [] pos) (cO fc g n):=PS.to (EL hp hc hb) λ_ _ _ q=>D8 q
def Mx (hp:PassesOwn (model X.prog X.w) X.A X.env X.xe)(hc:X.calm=true)(hi:JI X tg gE fi)(G:PG X tg t)(M:IN X.K qy t)(hb:tY X body g)
  (hs:∀x,foldedSetIterable gE X.env x=pure x:=by intro _;rfl):JS X (.For tg gE body [] pos) (kx fi qy g):=PS.to (A2 hp hc hi G hb hs) λ_ _ _ q=>IP M q
def IZ (hp:PassesOwn (model X.prog X.w) X.A X.env X.xe)(hc:X.calm=true)(hi:PI X tg gE (Q2 X.K fi))(G:PG X tg t)(M:IN X.K qy t)(hb:tY X body g)
  (hs:∀x,foldedSetIterable gE X.env x=pure x:=by intro _;rfl):JS X (.For tg gE body [] pos) (ph fi qy g):=PS.to (A2 hp hc hi G hb hs) λ_ _ _ q=>Fs M q
def ky (he:JE X e f)(U:PE X (.Name x p) (om i):=by exact pv)
  (G:attributeBase (.Name x p) "append" X.env (eval (.Name x p) X.env)=eval (.Name x p) X.env:=by rfl)
  (O:((backTo cF (starEach [e] X.env)).all (λx=>!x.1) && (backToKw cF (keywordEach [] X.env)).all (λx=>x.1.isSome)
   && decide ([e].length+([]:List Keyword).length+(if([]:List Keyword).isEmpty then 0 else 1)<30))=true:=by rfl)
  (M:(dM.endLine == cF.line)=true:=by rfl) (hs:starEach [e] X.env=[(false,eval e X.env)]:=by rfl) (T:swapsWith (.Call (.Attribute (.Name x p) "append" dM) [e] [] cF) none pos.line X.env=pure false:=by rfl):
  JS X (.Expr (.Call (.Attribute (.Name x p) "append" dM) [e] [] cF) pos) (mL i f):=by
 refine PS.to (BD (Fc PySem.F.plainAttrs_list PySem.F.slot_list_append PySem.F.type_list_append uw U (gF he je hs) G O M hs rfl) T) λE σ H q=>?_;obtain⟨a,us,h1,h2,k⟩:=IM q;exact⟨_,h1,.inl ⟨rfl,us,gT.of h2⟩,k⟩
end
@[simp] noncomputable def aD (g:FS)(n k:Nat):LD->OB:=λds=>if ds.length=n then
 match g (ds.map (λd=>some (d,false))++List.replicate k none) with
 |some (.rt d b)=>some (d,b)
 |some (.nx _)=>some (.non,false)
 |_=>none
 else none
def Fv (K:Frag)(f:LD->OB):Sp:=λvs H Q _=>∃(B:Hp)(ds:LD)(d:D)(b:Bool),(aZ B H/\Tb K B)/\IsL K B vs ds/\f ds=some (d,b)/\Fin K B H d b Q
def qO {K:Frag}{B H:Hp}{vs:LV}{ds:LD}{N:LS}(M:aZ B H)(tb:Tb K B)(i:IsL K B vs ds):dU K B H B H (L2.jY N vs) (ds.map (λd=>some (d,false))++List.replicate (N.length - vs.length) none):=by
 have G:∀(j:Nat)(d:D)(b:Bool),(ds.map (λd=>some (d,false))++List.replicate (N.length - vs.length) none:Env)[j]? = some (some (d,b))->b=false/\ds[j]? = some d:=λj d b e=>by
  by_cases hj:j<ds.length
  ·rw[getElem?_append_left (by simpa using hj),vA]at e;obtain⟨d',h1,h2⟩:=oY e;cases h2
   exact⟨rfl,h1⟩
  ·rw[getElem?_append_right (by simpa using Nat.not_lt.mp hj),getElem?_replicate]at e;split at e<;>cases e
 have O:∀a,¬own (L2.jY N vs) (ds.map (λd=>some (d,false))++List.replicate (N.length - vs.length) none) a:=λa ⟨j,d,h,_⟩=>by
  obtain⟨z,_⟩:=G j d true h;cases z
 refine⟨M,tb,.refl M,?_,λj d e=>?_,λj d e=>?_,λj k a d e h=>?_⟩
 ·unfold L2.jY;rw[uZ,uZ,vI,vI,length_replicate,length_replicate,i.length]
 ·obtain⟨_,T⟩:=G j d false e;obtain⟨v,h1,h2⟩:=i.get T;refine⟨v,?_,h2.mono λa o e=>by rw[cY (O a)];exact e⟩;unfold L2.jY;have hj:j<vs.length:=(vV h1).1;rw[getElem?_append_left (by simpa using hj),vA,h1]<;>rfl
 ·obtain⟨z,_⟩:=G j d true e;cases z
 ·obtain⟨z,_⟩:=G j d true h;cases z
section
variable {P:Program}{w:World}{K:Frag}{mg:SV}{base:Heap}
def OT {x qual:Str}{st:Stmt}{f:Addr}{fd:FuncData}{N ps:LS}{k:Nat}{g:FS}(F:Nv K x qual st f fd)(S:FnScope N ps (aL st))
  (hb:∀(cV:Value)(A:Around)(outer:List PySem.Env)(s:Shared)(H:Hp)(E:XK),eJ k (A.deeper (envOfC qual (aL st) s.heap.objs.size f cV))->tY (ot yc P w K mg base N qual (aL st) f cV A outer s H E).nox (ca st) g):
  tR P w K mg base yc (k+1) f fd ps (Fv K (aD g ps.length (N.length - ps.length))):=by
 have len:∀vs H Q E,Fv K (aD g ps.length (N.length - ps.length)) vs H Q E->vs.length=ps.length:=λvs H Q E h=>by
  obtain⟨B,ds,d,b,M,i,e,q⟩:=h;unfold aD at e;split at e
  ·rename_i hl;rw[i.length];exact hl
  ·cases e
 refine F.ok S len λcV A outer s H vs Q E U h=>⟨_,hb cV A outer s H E U,?_⟩;have G:=len vs H Q E h;obtain⟨B,ds,d,b,M,i,e,q⟩:=h;unfold aD at e;rw[if_pos (by rw[←i.length];exact G)]at e;have O:=qO (N:=N) M.1 M.2 i;rw[G]at O;split at e
 ·rename_i d' b' T;cases e
  exact⟨B,H,_,_,⟨B,O⟩,T,λv H' N' x' i' f'=>q v H' N' x' i' f'⟩
 ·rename_i ρ' T;cases e
  exact⟨B,H,_,_,⟨B,O⟩,T,λσ' H' ⟨N',s'⟩=>q .non H' N' s'.ext .non (by simp)⟩
 ·cases e
structure Fn (P:Program)(w:World)(K:Frag)(mg:Str->Option Value)(base:Heap)(k:Nat)(x:Str)(f:List D->OB):Prop where
 ex:∃(ad:Addr)(fd:FuncData)(ps:List Str),tR P w K mg base yc k ad fd ps (Fv K f)/\mg x=some (.ref ad)/\PySem.W.keepIn K (.ref ad)=true/\pe K fd ps []
end
def BO (F:Fn X.prog X.w X.K X.mg X.base k x f)(T:eJ k X.A)(ha:JA X (e::es) fa)(U:Gl X x:=by rfl)
  (G:(x == ("__debug__" : Str))=false:=by decide) (he:starEach (e::es) X.env=(false,eval e X.env)::starEach es X.env:=by rfl) (M:(backTo pos (starEach es X.env)).any (·.1)=false:=by rfl):
  JE X (.Call (.Name x p) (e::es) [] pos) (fA f fa):=by
 obtain⟨ad,fd,ps,F1,hm,hk,hb⟩:=F.ex;refine PE.to (BH F1 T U hm hk hb .nil KP ha G he M) λσ H Q q=>?_;obtain⟨B,ρ,d,b,s,r,e,q⟩:=q;obtain⟨ds,ex,e⟩:=oX e;exact⟨B,ρ,ds,s,r,ex,λvs H1 N1 O i1=>by
  show Fv X.K f (vs++[]) H1 Q _;rw[uQ];exact⟨N1,ds,d,b,⟨O.nh,r.tb.mono O.bn⟩,i1,e,q.into O⟩⟩
mutual
@[simp] def dc:D->D->Bool
 |.non,.non=>true
 |.bl a,.bl b=>a == b
 |.bl a,.int b=>decide ((if a then 1 else 0)=b)
 |.int a,.bl b=>decide (a=(if b then 1 else 0))
 |.int a,.int b=>decide (a=b)
 |.str a,.str b=>decide (a=b)
 |.tup xs,.tup ys=>fQ xs ys
 |.lst xs,.lst ys=>fQ xs ys
 |_,_=>false
@[simp] def fQ:LD->LD->Bool
 |[],[]=>true
 |x::xs,y::ys=>dc x y && fQ xs ys
 |_,_=>false
end
@[simp] def yy (a:Str)(b:Str):dc (.str a) (.str b)=decide (a=b):=by simp only[dc]
@[simp] noncomputable def aH:Nat->D->Bool
 |_,.non=>true
 |_,.bl _=>true
 |_,.int _=>true
 |_,.str _=>true
 |_,.ty _=>false
 |_,.dk _ _=>false
 |_,.dt _ _=>false
 |0,.tup _=>false
 |0,.lst _=>false
 |n+1,.tup ds=>ds.all (aH n)
 |n+1,.lst ds=>ds.all (aH n)
theorem yz:∀ {xs ys:LD},fQ xs ys=true->xs.length=ys.length
 |[],[],_=>rfl
 |x::xs,y::ys,h=>by
  simp only[fQ,vC]at h;rw[vE,vE,yz h.2]
 |[],_::_,h=>by simp[fQ]at h
 |_::_,[],h=>by simp[fQ]at h
def wW (h:xs.length≠ys.length):fQ xs ys=false:=by
 cases e:fQ xs ys with
 |false=>rfl
 |true=>exact absurd (yz e) h
theorem jH (f:Nat->Bool):∀ {xs ys:LD},xs.length=ys.length->(∀(j:Nat) x y,xs[j]? = some x->ys[j]? = some y->f j=dc x y)->(List.range xs.length).all f=fQ xs ys
 |[],[],_,_=>by simp[fQ]
 |x::xs,y::ys,hl,h=>by
  have e:=jH (λj=>f (j+1)) (xs:=xs) (ys:=ys) (by simpa using hl) λj a b h1 h2=>h (j+1) a b (by simpa using h1) (by simpa using h2);rw[vE,List.range_succ_eq_map,all_cons,List.all_map,fQ,←h 0 x y rfl rfl,←e];rfl
 |[],_::_,hl,_=>by simp at hl
 |_::_,[],hl,_=>by simp at hl
section
variable {X:Cx}{ah:AO}{σ:St}{H:Hp}{s:Shared}
def BP (I:Inv X ah σ H s)(h1:js X.K H a vs)(h2:gT X.K H a ws):False:=by
 obtain⟨its,_,⟨o,e,c,_⟩,_⟩:=I.tuple h1;obtain⟨its',_,⟨o',O,G,M,_⟩,_⟩:=I.list h2;rw[e]at G;cases G;rw[c]at M;injection M with z;exact absurd z (by decide)
def BQ (I:Inv X ah σ H s)(e:s.heap.get? a=some o)(d:o.data=.seq its n):(∀aM ob,H a≠some (.dK aM ob))/\∀aM,H a≠some (.dT aM):=by
 refine⟨λaM ob h=>?_,λaM h=>?_⟩
 ·obtain⟨_,_,_,_,_,o',es,M,G,_,d',_⟩:=(show bR X.prog X.w H s.heap a (.dK aM ob)from I.hok a _ h);rw[e]at G;cases G;rw[d]at d';cases d'
 ·obtain⟨_,_,_,_,o',es,M,G,_,d',_⟩:=(show bR X.prog X.w H s.heap a (.dT aM)from I.hok a _ h);rw[e]at G;cases G;rw[d]at d';cases d'
def y0 (I:Inv X ah σ H s)(h1:js X.K H a vs):(∀aM ob,H a≠some (.dK aM ob))/\∀aM,H a≠some (.dT aM):=by
 obtain⟨its,_,⟨o,e,c,n,d⟩,_⟩:=I.tuple h1;exact BQ I e d
def y4 (I:Inv X ah σ H s)(h1:gT X.K H a vs):(∀aM ob,H a≠some (.dK aM ob))/\∀aM,H a≠some (.dT aM):=by
 obtain⟨its,_,p,_⟩:=I.list h1;obtain⟨o,e,c,n,d⟩:=p.isList;exact BQ I e d
def BR (I:Inv X ah σ H s):∀(n:Nat){v:V}{d d':D},Is X.K H v d->Is X.K H v d'->aH n d=true->dc d d'=true:=by
 have G:∀ {p:D->Bool}(O:∀ {v:V}{d d':D},Is X.K H v d->Is X.K H v d'->p d=true->dc d d'=true) {vs:LV}{ds M:LD},IsL X.K H vs ds->IsL X.K H vs M->ds.all p=true->fQ ds M=true:=by
  intro p O vs;induction vs with
  |nil=>intro ds M h h' _;cases h;cases h';simp[fQ]
  |cons v vs T=>
   intro ds M h h' hp;cases h with
   |cons h1 h2=>
    cases h' with
    |cons h3 h4=>
     rw[all_cons,vC]at hp;rw[fQ,O h1 h3 hp.1,T h2 h4 hp.2];rfl
 intro n;induction n with
 |zero=>
  intro v d d' h h' hp;cases h<;>cases h'<;>first|(simp[aH]at hp;done)|simp[dc]
 |succ n O=>
  intro v d d' h h' hp;cases h with
  |tup h1 h2=>
   cases h' with
   |tup h3 h4=>
    rw[I.tuple_inj h3 h1]at h4;rw[dc];exact G O h2 h4 (by simpa [aH]using hp)
   |lst h3 h4=>exact(BP I h1 h3).elim
   |dk h3 _ _=>exact((y0 I h1).1 _ _ h3).elim
   |dt h3 _ _=>exact((y0 I h1).2 _ h3).elim
  |lst h1 h2=>
   cases h' with
   |lst h3 h4=>
    rw[I.list_inj h3 h1]at h4;rw[dc];exact G O h2 h4 (by simpa [aH]using hp)
   |tup h3 h4=>exact(BP I h3 h1).elim
   |dk h3 _ _=>exact((y4 I h1).1 _ _ h3).elim
   |dt h3 _ _=>exact((y4 I h1).2 _ h3).elim
  |ty=>simp[aH]at hp
  |dk=>simp[aH]at hp
  |dt=>simp[aH]at hp
  |_=>cases h'<;>simp[dc]
def KY {α:Type}{p:α->Bool}{l:List α}{j:Nat}{x:α}(h:l.all p=true)(e:l[j]? = some x):p x=true:=uR h x (vL e)
def y6 {A:Around}{p:D->Bool}(ih:∀ {O T:V}{d1 d2:D}{U u2:Value},p d1=true->p d2=true->Is X.K H O d1->Is X.K H T d2->be O U->be T u2->SeqAt.EqAt A s U u2 (dc d1 d2))
  {vs M:LV}{ds es:LD}{its G:LU}(i1:IsL X.K H vs ds) (i2:IsL X.K H M es) (r1:b7 vs its) (r2:b7 M G) (p1:ds.all p=true) (p2:es.all p=true):
  ∀j (h1:j<its.toArray.size) (h2:j<G.toArray.size),SeqAt.EqAt A s its.toArray[j] G.toArray[j] (dc (ds.getD j .non) (es.getD j .non)):=by
 intro j h1 h2;rw[vH]at h1 h2;have l1:=r1.length;have l2:=r2.length;have l3:=i1.length;have l4:=i2.length;have hv:j<vs.length:=by omega
 have hw:j<M.length:=by omega
 have hd:j<ds.length:=by omega
 have he:j<es.length:=by omega
 obtain⟨u,e1,q1⟩:=r1.get (i:=j) (x:=vs[j]) (by simp[hv]);obtain⟨u',e2,q2⟩:=r2.get (i:=j) (x:=M[j]) (by simp[hw]);obtain⟨v,e3,q3⟩:=i1.get (i:=j) (d:=ds[j]) (by simp[hd]);obtain⟨w,e4,q4⟩:=i2.get (i:=j) (d:=es[j]) (by simp[he]);have a1:its.toArray[j]=u:=by have z:=(vV e1).2;simpa using z
 have a2:G.toArray[j]=u':=by have z:=(vV e2).2;simpa using z
 have a3:vs[j]=v:=by simpa [hv]using e3
 have a4:M[j]=w:=by simpa [hw]using e4
 have a5:ds.getD j .non=ds[j]:=by simp[List.getD,hd]
 have a6:es.getD j .non=es[j]:=by simp[List.getD,he]
 rw[a1,a2,a5,a6];exact ih (KY p1 (j:=j) (by simp[hd])) (KY p2 (j:=j) (by simp[he])) (a3 ▸ q3) (a4 ▸ q4) q1 q2
def wZ {xs ys:LD}(j:Nat)(x y:D)(h1:xs[j]? = some x)(h2:ys[j]? = some y):dc (xs.getD j .non) (ys.getD j .non)=dc x y:=by
 simp[List.getD,h1,h2]
abbrev R0 (A:Around)(s:Shared)(G M:Value)(b:Bool):Prop:=SeqAt.RcAt A s G M b/\SeqAt.EqAt A s G M b/\SeqAt.RcNeAt A s G M (!b)
def BS {G M:Addr}(rc:SeqAt.RcAt A s (.ref G) (.ref M) b)(O:SeqAt.RcNeAt A s (.ref G) (.ref M) (!b))(h:G=M->b=true):R0 A s (.ref G) (.ref M) b:=by
 refine⟨rc,?_,O⟩;by_cases ha:G=M
 ·subst ha;rw[h rfl];exact SeqAt.EqAt.same _
 ·exact SeqAt.EqAt.of_refs ha rc
def y7 (O:aH 0 d1=true)(p2:aH 0 d2=true)(i1:Is X.K H v1 d1)(i2:Is X.K H v2 d2)(M:be v1 u1)(G:be v2 u2):R0 A s u1 u2 (dc d1 d2):=by
 cases i1 with
 |non=>
  cases M
  cases i2 with
  |non=>cases G;rw[dc];exact⟨.none_none,.same _,.none_none⟩
  |bl b=>cases G;simp only[dc];exact⟨.none_bool _,.none_bool _,.none_bool _⟩
  |int b=>obtain⟨t',rfl⟩:=G;simp only[dc];exact⟨.none_int _ _,.none_int _ _,.none_int _ _⟩
  |str b=>obtain⟨t',rfl⟩:=G;simp only[dc];exact⟨.none_str _ _,.none_str _ _,.none_str _ _⟩
  |_=>simp at p2
 |bl a=>
  cases M
  cases i2 with
  |non=>cases G;simp only[dc];exact⟨.bool_none _,.bool_none _,.bool_none _⟩
  |bl b=>cases G;rw[dc];exact⟨.bool_bool _ _,.bool_bool _ _,.bool_bool _ _⟩
  |int b=>obtain⟨t',rfl⟩:=G;rw[dc,←Bool.beq_eq_decide_eq];exact⟨.bool_int _ _ _,.bool_int _ _ _,.bool_int _ _ _⟩
  |str b=>obtain⟨t',rfl⟩:=G;simp only[dc];exact⟨.bool_str _ _ _,.bool_str _ _ _,.bool_str _ _ _⟩
  |_=>simp at p2
 |int a=>
  obtain⟨t,rfl⟩:=M;cases i2 with
  |non=>cases G;simp only[dc];exact⟨.int_none _ _,.int_none _ _,.int_none _ _⟩
  |bl b=>cases G;rw[dc,←Bool.beq_eq_decide_eq];exact⟨.int_bool _ _ _,.int_bool _ _ _,.int_bool _ _ _⟩
  |int b=>obtain⟨t',rfl⟩:=G;rw[dc,←Bool.beq_eq_decide_eq];exact⟨.int_int _ _ _ _,.int_int _ _ _ _,.int_int _ _ _ _⟩
  |str b=>obtain⟨t',rfl⟩:=G;simp only[dc];exact⟨.int_str _ _ _ _,.int_str _ _ _ _,.int_str _ _ _ _⟩
  |_=>simp at p2
 |str a=>
  obtain⟨t,rfl⟩:=M;cases i2 with
  |non=>cases G;simp only[dc];exact⟨.str_none _ _,.str_none _ _,.str_none _ _⟩
  |bl b=>cases G;simp only[dc];exact⟨.str_bool _ _ _,.str_bool _ _ _,.str_bool _ _ _⟩
  |int b=>obtain⟨t',rfl⟩:=G;simp only[dc];exact⟨.str_int _ _ _ _,.str_int _ _ _ _,.str_int _ _ _ _⟩
  |str b=>obtain⟨t',rfl⟩:=G;rw[dc,←Bool.beq_eq_decide_eq];exact⟨.str_str _ _ _ _,.str_str _ _ _ _,.str_str _ _ _ _⟩
  |_=>simp at p2
 |_=>simp at O
def KZ (I:Inv X ah σ H s):∀(n:Nat){A:Around}{v1 v2:V}{d1 d2:D}{u1 u2:Value},A.units+n<cLine->aH n d1=true->aH n d2=true->Is X.K H v1 d1->Is X.K H v2 d2->be v1 u1->be v2 u2->R0 A s u1 u2 (dc d1 d2):=by
 intro n;induction n with
 |zero=>exact λ_ p1 p2 i1 i2 T r2=>y7 p1 p2 i1 i2 T r2
 |succ n ih=>
  intro A v1 v2 d1 d2 u1 u2 hu p1 p2 i1 i2 T r2;have G:A.units<cLine:=by omega
  have Ul:∀ {v1 v2:V}{d1 d2:D}{u1 u2:Value},aH n d1=true->aH n d2=true->Is X.K H v1 d1->Is X.K H v2 d2->be v1 u1->be v2 u2->SeqAt.EqAt A.in1 s u1 u2 (dc d1 d2):=λp1 p2 i1 i2 T r2=>(ih (A:=A.in1) (by show A.units+1+n<cLine;omega) p1 p2 i1 i2 T r2).2.1;by_cases f2:aH 0 d2=true
  ·by_cases f1:aH 0 d1=true
   ·exact y7 f1 f2 i1 i2 T r2
   ·cases i1 with
    |tup h1 k1=>
     cases T
     obtain⟨its,U,M,z1⟩:=I.tuple h1;cases i2 with
     |non=>cases r2;simp only[dc];exact⟨.tuple_none M G,.tuple_none M G,.tuple_none M G⟩
     |bl=>cases r2;simp only[dc];exact⟨.tuple_bool _ M G,.tuple_bool _ M G,.tuple_bool _ M G⟩
     |int=>obtain⟨t,rfl⟩:=r2;simp only[dc];exact⟨.tuple_int _ _ M G,.tuple_int _ _ M G,.tuple_int _ _ M G⟩
     |str=>obtain⟨t,rfl⟩:=r2;simp only[dc];exact⟨.tuple_str _ _ M G,.tuple_str _ _ M G,.tuple_str _ _ M G⟩
     |_=>simp at f2
    |lst h1 k1=>
     cases T
     obtain⟨its,U,M,z1⟩:=I.list h1;replace M:=M.isList;cases i2 with
     |non=>cases r2;simp only[dc];exact⟨.list_none M G,.list_none M G,.list_none M G⟩
     |bl=>cases r2;simp only[dc];exact⟨.list_bool _ M G,.list_bool _ M G,.list_bool _ M G⟩
     |int=>obtain⟨t,rfl⟩:=r2;simp only[dc];exact⟨.list_int _ _ M G,.list_int _ _ M G,.list_int _ _ M G⟩
     |str=>obtain⟨t,rfl⟩:=r2;simp only[dc];exact⟨.list_str _ _ M G,.list_str _ _ M G,.list_str _ _ M G⟩
     |_=>simp at f2
    |_=>simp at f1 p1
  ·cases i2 with
   |tup h2 k2=>
    cases r2
    obtain⟨BA,Qb,O,z2⟩:=I.tuple h2;cases i1 with
    |tup h1 k1=>
     cases T
     obtain⟨its,U,M,z1⟩:=I.tuple h1;rename_i a2 ws es a1 vs ds;have he:=y6 (A:=A.in1) (p:=aH n) Ul k1 k2 U Qb (by simpa using p1) (by simpa using p2);have Qc:((List.range (min its.toArray.size BA.toArray.size)).all (λj=>dc (ds.getD j .non) (es.getD j .non)) && its.toArray.size == BA.toArray.size)=dc (.tup ds) (.tup es):=by
      rw[dc,vH,vH,←U.length,←Qb.length,k1.length,k2.length];by_cases hl:ds.length=es.length
      ·rw[←hl,Nat.min_self,beq_self_eq_true,Bool.and_true];exact jH _ hl λj x y e1 e2=>wZ j x y e1 e2
      ·rw[wW hl,beq_eq_false_iff_ne.mpr hl,Bool.and_false]
     have rc:=SeqAt.RcAt.tuples M O G he;have rn:=SeqAt.RcNeAt.tuples M O G he;rw[Qc]at rc rn;exact BS rc rn λe=>by subst e;exact BR I (n+1) (.tup h1 k1) (.tup h2 k2) p1
    |lst h1 k1=>cases T;obtain⟨its,U,M,z1⟩:=I.list h1;simp only[dc];exact⟨.list_tuple M.isList O G,.list_tuple M.isList O G,.list_tuple M.isList O G⟩
    |non=>cases T;simp only[dc];exact⟨.none_tuple O G,.none_tuple O G,.none_tuple O G⟩
    |bl=>cases T;simp only[dc];exact⟨.bool_tuple _ O G,.bool_tuple _ O G,.bool_tuple _ O G⟩
    |int=>obtain⟨t,rfl⟩:=T;simp only[dc];exact⟨.int_tuple _ _ O G,.int_tuple _ _ O G,.int_tuple _ _ O G⟩
    |str=>obtain⟨t,rfl⟩:=T;simp only[dc];exact⟨.str_tuple _ _ O G,.str_tuple _ _ O G,.str_tuple _ _ O G⟩
    |_=>simp at p1
   |lst h2 k2=>
    cases r2
    obtain⟨BA,Qb,O,z2⟩:=I.list h2;replace O:=O.isList;cases i1 with
    |lst h1 k1=>
     cases T
     obtain⟨its,U,M,z1⟩:=I.list h1;replace M:=M.isList;rename_i a2 ws es a1 vs ds;have he:=y6 (A:=A.in1) (p:=aH n) Ul k1 k2 U Qb (by simpa using p1) (by simpa using p2);have both:SeqAt.RcAt A s (.ref a1) (.ref a2) (dc (.lst ds) (.lst es))/\SeqAt.RcNeAt A s (.ref a1) (.ref a2) (!dc (.lst ds) (.lst es)):=by
      have hz:its.toArray.size=ds.length/\BA.toArray.size=es.length:=by rw[vH,vH,←U.length,←Qb.length,k1.length,k2.length];exact⟨rfl,rfl⟩
      by_cases hl:ds.length=es.length
      ·have Qc:(List.range its.toArray.size).all (λj=>dc (ds.getD j .non) (es.getD j .non))=dc (.lst ds) (.lst es):=by
        rw[dc,hz.1];exact jH _ hl λj x y e1 e2=>wZ j x y e1 e2
       have hs:=(hz.1.trans hl).trans hz.2.symm;have rc:=SeqAt.RcAt.lists M O hs G he;have rn:=SeqAt.RcNeAt.lists M O hs G he;rw[Qc]at rc rn;exact⟨rc,rn⟩
      ·have hs:(its.toArray.size != BA.toArray.size)=true:=by rw[hz.1,hz.2];exact bne_iff_ne.mpr hl
       rw[dc,wW hl];exact⟨.lists_lengths M O hs G,.lists_lengths M O hs G⟩
     exact BS both.1 both.2 λe=>by subst e;exact BR I (n+1) (.lst h1 k1) (.lst h2 k2) p1
    |tup h1 k1=>cases T;obtain⟨its,U,M,z1⟩:=I.tuple h1;simp only[dc];exact⟨.tuple_list M O G,.tuple_list M O G,.tuple_list M O G⟩
    |non=>cases T;simp only[dc];exact⟨.none_list O G,.none_list O G,.none_list O G⟩
    |bl=>cases T;simp only[dc];exact⟨.bool_list _ O G,.bool_list _ O G,.bool_list _ O G⟩
    |int=>obtain⟨t,rfl⟩:=T;simp only[dc];exact⟨.int_list _ _ O G,.int_list _ _ O G,.int_list _ _ O G⟩
    |str=>obtain⟨t,rfl⟩:=T;simp only[dc];exact⟨.str_list _ _ O G,.str_list _ _ O G,.str_list _ _ O G⟩
    |_=>simp at p1
   |_=>simp at f2 p2
@[simp] def dj:D->D->OB:=λx y=>if aH 40 x=true/\aH 40 y=true then some (.bl (dc x y),false)else none
@[simp] def xa:D->D->OB:=λx y=>if aH 40 x=true/\aH 40 y=true then some (.bl (!dc x y),false)else none
def cr (hu:X.A.units+40<cLine):dL X (compareOp .Eq) (rD X.K dj):=by
 intro ah s σ H x y v u Q I M O q;obtain⟨B,dx,dy,d,b,G,T,U,e,q⟩:=q;unfold dj at e;split at e
 ·rename_i hp;cases e
  exact(KZ I 40 hu hp.1 hp.2 (T.mono G) (U.mono G) M O).1 _ _ _ _ ⟨.bl _,H,I,rfl,q.one G (.bl _)⟩
 ·cases e
def xc (hu:X.A.units+40<cLine):dL X (compareOp .NotEq) (rD X.K xa):=by
 intro ah s σ H x y v u Q I M O q;obtain⟨B,dx,dy,d,b,G,T,U,e,q⟩:=q;unfold xa at e;split at e
 ·rename_i hp;cases e
  exact(KZ I 40 hu hp.1 hp.2 (T.mono G) (U.mono G) M O).2.2 _ _ _ _ ⟨.bl _,H,I,rfl,q.one G (.bl _)⟩
 ·cases e
end
section
variable {X:Cx}{a b e:Expr}{pos:Pos}
def BU {K:Frag}{H:Hp}{vs:LV}{ds:LD}{i:Int}{d:D}(h:IsL K H vs ds)(e:mD ds i=some d):∃v,mD vs i=some v/\Is K H v d:=by
 unfold mD at e ⊢;rw[h.length];cases q:EW ds.length i with
 |none=>rw[q]at e;cases e
 |some j=>rw[q]at e;exact h.get e
@[simp] def bK:D->D->OB
 |.lst ds,.int i=>(mD ds i).map λd=>(d,false)
 |.tup ds,.int i=>(mD ds i).map λd=>(d,false)
 |.str z,.int i=>if z.length<=sizeLine then (mD z.cps.toList i).map λc=>(.str ⟨#[c]⟩,false)else none
 |_,_=>none
def R1:EX X (rD X.K bK):=by
 intro G M ah s σ H x y v u Q I U ry q hs;obtain⟨B,dx,dy,d,b,O,ix,iy,e,q⟩:=q;cases ix<;>try (cases e;done)
 all_goals (cases iy<;>try (cases e;done))
 ·simp only[bK]at e;split at e
  ·rename_i hz;obtain⟨c,T,e2⟩:=oY e;cases e2
   exact Fa G M ah s σ H _ _ v u Q I U ry ⟨_,_,c,rfl,rfl,hz,T,q.one O (.str _)⟩ hs
  ·cases e
 ·rename_i h hl i;simp only[bK]at e;obtain⟨c,T,e2⟩:=oY e;cases e2
  obtain⟨w,h1,h2⟩:=BU hl T;exact EZ G M ah s σ H _ _ v u Q I U ry ⟨_,_,_,w,rfl,rfl,b8 O h,h1,q.one O h2⟩ hs
 ·rename_i h hl i;simp only[bK]at e;obtain⟨c,T,e2⟩:=oY e;cases e2
  obtain⟨w,h1,h2⟩:=BU hl T;exact IE G M ah s σ H _ _ v u Q I U ry ⟨_,_,_,w,rfl,rfl,O.seq h,h1,q.one O h2⟩ hs
def bd (ha:JE X a fa)(hb:JE X b fb)(hs:mE b:=by intro _ _;rfl):JE X (.Subscript a b pos) (f2 bK fa fb):=PE.to (EY R1 ha hb hs) λ_ _ _ h=>IH h
abbrev FO:=Env->Option OI
def Ve (K:Frag)(f:FO):TO:=λσ H Q=>∃(B:Hp)(ρ:Env)(o:OI),aZ B H/\fO K B σ ρ/\f ρ=some o/\∀H',aZ H H'->Q o H'
abbrev JO (X:Cx)(e:Option Expr)(f:FO):Prop:=PO X e (Ve X.K f)
@[simp] noncomputable def fF:FO:=λ_=>some none
@[simp] noncomputable def dI (f:FE):FO:=λρ=>match f ρ with|some (.int i,_)=>some (some i)|_=>none
def ig:JO X none fF:=λah s σ H Q I h=>Iz ah s σ H Q I (by
 obtain⟨B,ρ,o,G,r,e,q⟩:=h;cases e
 exact q H (.refl H))
def fG (h:JE X e f):JO X (some e) (dI f):=λah s σ H Q I q=>IA h ah s σ H Q I (by
 obtain⟨B,ρ,o,G,r,e,q⟩:=q;unfold dI at e;split at e
 ·rename_i i U M;cases e
  refine⟨B,ρ,_,_,G,r,M,λv O N1 T i1 _=>?_⟩;cases i1
  exact⟨i,rfl,q O T.hh⟩
 ·cases e)
def iR (ds:LD)(lo hi:OI):LD:=(ds.drop (HT.dS ds.length 0 lo)).take (HT.dS ds.length ds.length hi - HT.dS ds.length 0 lo)
def xf {K:Frag}{H:Hp}{vs:LV}{ds:LD}{lo hi:OI}(h:IsL K H vs ds):IsL K H (tV vs lo hi) (iR ds lo hi):=by
 unfold tV iR;rw[h.length];exact(h.drop _).take _
def c8.to (h:c8 X f r)(k:∀xs H Q,r' xs H Q->r xs H Q):c8 X f r':=λah s σ H xs us Q I G q=>h ah s σ H xs us Q I G (k xs H Q q)
variable {es:QD}{x:Str}{p:Pos}{id T:String}
def aF (hc:c8 X (.builtin id) (EA X.K f))(hm:X.mg x=none)(hv:bootBuiltins x=some (.builtin id))(ha:JA X (e::es) fa)(O:Gl X x:=by rfl)(hn:x ≠ "__name__":=by decide)(G:(x == ("__debug__" : Str))=false:=by decide)
  (he:starEach (e::es) X.env=(false,eval e X.env)::starEach es X.env:=by rfl) (M:(backTo pos (starEach es X.env)).any (·.1)=false:=by rfl):JE X (.Call (.Name x p) (e::es) [] pos) (fA f fa):=PE.to (qC hc O hm hv ha hn G he M) λ_ _ _ h=>II h
def u9 (hc:c8 X (.type T) (EA X.K f))(hm:X.mg x=none)(hv:bootBuiltins x=some (.type T))(ha:JA X (e::es) fa)(O:Gl X x:=by rfl)(hn:x ≠ "__name__":=by decide)(G:(x == ("__debug__" : Str))=false:=by decide)
  (he:starEach (e::es) X.env=(false,eval e X.env)::starEach es X.env:=by rfl) (M:(backTo pos (starEach es X.env)).any (·.1)=false:=by rfl):JE X (.Call (.Name x p) (e::es) [] pos) (fA f fa):=PE.to (ou hc O hm hv ha hn G he M) λ_ _ _ h=>II h
@[simp] noncomputable def dR:LD->OB
 |[.lst ds]=>some (.int ds.length,false)
 |[.tup ds]=>some (.int ds.length,false)
 |[.str z]=>if z.length<=sizeLine then some (.int z.length,false)else none
 |_=>none
def eW:c8 X (.builtin "len") (EA X.K dR):=by
 refine c8.to (c8.or wK wL) λxs H Q q=>?_;obtain⟨B,ds,d,b,G,i,e,q⟩:=q;cases i with
 |nil=>simp[dR]at e
 |cons i1 i2=>
  cases i2 with
  |cons _ _=>cases i1<;>simp[dR]at e
  |nil=>
   cases i1<;>try (simp[dR]at e;done)
   ·simp only[dR]at e;split at e
    ·rename_i hz;cases e
     exact .inr ⟨_,rfl,hz,q.one G (.int _)⟩
    ·cases e
   ·rename_i h hl;simp only[dR]at e;cases e
    refine .inl ⟨_,_,rfl,.inr (b8 G h),?_⟩;rw[hl.length];exact q.one G (.int _)
   ·rename_i h hl;simp only[dR]at e;cases e
    refine .inl ⟨_,_,rfl,.inl (G.seq h),?_⟩;rw[hl.length];exact q.one G (.int _)
def gL (hm:X.mg x=none)(hv:bootBuiltins x=some (.type n))(G:Gl X x:=by rfl)(hn:x ≠ "__name__":=by decide)(hd:(x == ("__debug__" : Str))=false:=by decide):JE X (.Name x pos) (fC (.ty n)) :=
 PE.to (Im G hm hv (v:=.ty n) rfl hn hd) λ_ _ _ h=>DA (λ_=>.ty n) h
end
def AH (G:eJ k A):A.units+40<cLine:=by have:=G.un;omega
section
variable {X:Cx}{a b e:Expr}{pos:Pos}{x:Str}{p:Pos}
def de (h:∃u v,X.mg x=some u/\be v u/\∀B,Is X.K B v d)(G:Gl X x:=by rfl)(hd:(x == ("__debug__" : Str))=false:=by decide):JE X (.Name x pos) (fC d):=by
 obtain⟨u,v,hm,r,i⟩:=h;exact IU G hm r i hd
@[simp] noncomputable def BV:D->D->OB
 |.int i,.int j=>some (.int (i+j),false)
 |.str i,.str j=>if i.length+j.length<=sizeLine then some (.str (i++j),false)else none
 |_,_=>none
def Ja:dL X (binaryOp .Add) (rD X.K BV):=by
 refine jg (r:=rD X.K (EB Mv IX)) (oy OO Mw) λx y H Q q=>?_;obtain⟨B,dx,G,d,b,M,O,T,e,q⟩:=q;refine⟨B,dx,G,d,b,M,O,T,?_,q⟩;cases dx<;>try (cases e;done)
 all_goals (cases G<;>try (cases e;done))
 all_goals (simp[BV]at e;simp[EB,Mv,IX,Ar,NP,e])
@[simp] def AI:D->D->OB:=OM
def qP:dL X (binaryOp .Mult) (rD X.K AI):=OP
@[simp] def AJ:D->D->OB:=T3
def kB:dL X (compareOp .Lt) (rD X.K AJ):=Ry
@[simp] noncomputable def qQ:D->D->OB
 |.int i,.int j=>some (.bl (decide (i<=j)),false)
 |.str i,.str j=>some (.bl (!decide (j.cps.toList<i.cps.toList)),false)
 |_,_=>none
def hV:dL X (compareOp .LtE) (rD X.K qQ):=by
 refine jg (r:=rD X.K (EB Rx Q4)) (oy Rz OS) λx y H Q q=>?_;obtain⟨B,dx,G,d,b,M,O,T,e,q⟩:=q;refine⟨B,dx,G,d,b,M,O,T,?_,q⟩;cases dx<;>try (cases e;done)
 all_goals (cases G<;>try (cases e;done))
 all_goals (simp[qQ]at e;simp[EB,Rx,Q4,Ar,NP,e])
@[simp] noncomputable def y8:D->OB
 |.int i=>some (.int (-i),false)
 |_=>none
def La:Oy X (unaryOp .USub) (Rv X.K y8):=by
 intro ah s σ H x v Q I G q;obtain⟨B,dx,d,b,M,O,e,q⟩:=q;cases O<;>try (simp[y8]at e;done)
 simp only[y8]at e;cases e
 exact Ma ah s σ H _ v Q I G ⟨_,rfl,q.one M (.int _)⟩
@[simp] noncomputable def xg:D->D->Option Bool
 |.non,.non=>some true
 |_,.non=>some false
 |.bl a,.bl b=>some (a == b)
 |_,.bl _=>some false
 |_,_=>none
@[simp] def As:D->D->OB:=λx y=>(xg x y).map λb=>(.bl b,false)
@[simp] def jI:D->D->OB:=λx y=>(xg x y).map λb=>(.bl (!b),false)
def BW {K:Frag}{B:Hp}{x y:V}{v u:Value}{dx G:D}{k:Bool}(O:Is K B x dx)(T:Is K B y G)(M:be x v)(U:be y u)(e:xg dx G=some k):plainIs v u=true/\(v == u)=k:=by
 cases T<;>(first|(cases dx<;>simp[xg]at e;done)|skip)
 all_goals (cases O)
 all_goals (first|(obtain⟨t,rfl⟩:=M)|cases M)
 all_goals (cases U)
 all_goals (simp only[xg,Option.some.injEq]at e;subst e)
 all_goals (first|exact⟨rfl,rfl⟩|skip)
 all_goals (rename_i c d;cases c<;>cases d<;>exact⟨rfl,rfl⟩)
def xh:dL X (compareOp .Is) (rD X.K As):=by
 intro ah s σ H x y v u Q I G M q;obtain⟨B,dx,dy,d,b,O,T,U,e,q⟩:=q;obtain⟨k,ek,e⟩:=oY e;cases e
 obtain⟨h1,h2⟩:=BW T U G M ek;refine wpAny_is_plain h1 ⟨.bl k,H,I,by rw[h2];rfl,q.one O (.bl _)⟩
def ql:dL X (compareOp .IsNot) (rD X.K jI):=by
 intro ah s σ H x y v u Q I G M q;obtain⟨B,dx,dy,d,b,O,T,U,e,q⟩:=q;obtain⟨k,ek,e⟩:=oY e;cases e
 obtain⟨h1,h2⟩:=BW T U G M ek;refine wpAny_isNot_plain h1 ⟨.bl (!k),H,I,by rw[h2];rfl,q.one O (.bl _)⟩
@[simp] noncomputable def fT:D->Bool
 |.non=>true|.bl _=>true|.int _=>true|.str _=>true
 |_=>false
noncomputable def Fw (x:D)(ds:LD):Bool:=ds.any λy=>dc y x
@[simp] noncomputable def gM:D->Option LD
 |.lst ds=>some ds
 |.tup ds=>some ds
 |_=>none
@[simp] def DC:D->D->OB:=λx y=>(gM y).bind λds=>if fT x=true/\ds.all fT=true then some (.bl (Fw x ds),false)else none
@[simp] def df:D->D->OB:=λx y=>(gM y).bind λds=>if fT x=true/\ds.all fT=true then some (.bl (!Fw x ds),false)else none
def qR {K:Frag}{B:Hp}{v:V}{d:D}(i:Is K B v d)(h:fT d=true):lK v=true:=by
 cases i<;>first|rfl|(simp[fT]at h)
def R3 {K:Frag}{B:Hp}{v w:V}{d e:D}(i:Is K B v d)(j:Is K B w e)(h:fT d=true)(h':fT e=true):HZ v w=dc d e:=by
 cases i<;>(first|(simp[fT]at h;done)|skip)
 all_goals (cases j<;>(first|(simp[fT]at h';done)|skip))
 all_goals (simp only[HZ,dc,Bool.beq_eq_decide_eq])
theorem y9 {K:Frag}{B:Hp}:∀ {vs:LV}{ds:LD},IsL K B vs ds->ds.all fT=true->vs.all lK=true
 |_,_,.nil,_=>rfl
 |_,_,.cons i t,h=>by
  rw[all_cons,vC]at h;rw[all_cons,qR i h.1,y9 t h.2];rfl
theorem Fx {K:Frag}{B:Hp}{v:V}{d:D}(j:Is K B v d)(hd:fT d=true):∀ {vs:LV}{ds:LD},IsL K B vs ds->ds.all fT=true->Q1 v vs=Fw d ds
 |_,_,.nil,_=>rfl
 |_,_,.cons i t,h=>by
  rw[all_cons,vC]at h;have e:=Fx j hd t h.2;unfold Q1 Fw at *;rw[any_cons,any_cons,e,R3 i j h.1 hd]
def uA:dL X (compareOp .In) (rD X.K DC):=by
 refine jg D2 λx y H Q q=>?_;obtain⟨B,dx,T,d,b,G,M,O,e,q⟩:=q;obtain⟨ds,es,e⟩:=oX e;split at e
 ·rename_i hf;cases e
  cases O<;>simp only[gM]at es<;>try (cases es;done)
  ·rename_i h hl;cases es
   exact⟨_,_,rfl,.inr (b8 G h),qR M hf.1,y9 hl hf.2,by rw[if_neg (by decide),Fx M hf.1 hl hf.2];exact q.one G (.bl _)⟩
  ·rename_i h hl;cases es
   exact⟨_,_,rfl,.inl (G.seq h),qR M hf.1,y9 hl hf.2,by rw[if_neg (by decide),Fx M hf.1 hl hf.2];exact q.one G (.bl _)⟩
 ·cases e
def kE:dL X (compareOp .NotIn) (rD X.K df):=by
 refine jg wJ λx y H Q q=>?_;obtain⟨B,dx,T,d,b,G,M,O,e,q⟩:=q;obtain⟨ds,es,e⟩:=oX e;split at e
 ·rename_i hf;cases e
  cases O<;>simp only[gM]at es<;>try (cases es;done)
  ·rename_i h hl;cases es
   exact⟨_,_,rfl,.inr (b8 G h),qR M hf.1,y9 hl hf.2,by rw[if_pos rfl,Fx M hf.1 hl hf.2];exact q.one G (.bl _)⟩
  ·rename_i h hl;cases es
   exact⟨_,_,rfl,.inl (G.seq h),qR M hf.1,y9 hl hf.2,by rw[if_pos rfl,Fx M hf.1 hl hf.2];exact q.one G (.bl _)⟩
 ·cases e
def eM:bootBuiltins "len" = some (.builtin "len"):=PySem.boot_len
def bx:bootBuiltins "isinstance" = some (.builtin "isinstance"):=by decide +kernel
def OU:bootBuiltins "max" = some (.builtin "max"):=by decide +kernel
def yA:bootBuiltins "all" = some (.builtin "all"):=by decide +kernel
def OV:bootBuiltins "int" = some (.type "int"):=by decide +kernel
def Fy:bootBuiltins "bool" = some (.type "bool"):=by decide +kernel
def Fz:bootBuiltins "str" = some (.type "str"):=by decide +kernel
def AK:bootBuiltins "list" = some (.type "list"):=by decide +kernel
def gG:bootBuiltins "tuple" = some (.type "tuple"):=by decide +kernel
@[simp] noncomputable def F0:LD->OB
 |[.int i,.int j]=>some (.int (if j > i then j else i),false)
 |_=>none
def F3 {K:Frag}{B:Hp}{xs:LV}{i j:Int}(h:IsL K B xs [.int i,.int j]):xs=[.int i,.int j]:=by
 cases h with
 |cons h1 h2=>cases h1;cases h2 with|cons h3 h4=>cases h3;cases h4;rfl
def OW (hc:X.calm=true:=by rfl):c8 X (.builtin "max") (EA X.K F0):=by
 refine c8.to (Dz hc) λxs H Q q=>?_;obtain⟨B,ds,d,b,G,i,e,q⟩:=q;match ds,e with
 |[.int M,.int O],e=>simp only[F0]at e;cases e;exact⟨M,O,F3 i,q.one G (.int _)⟩
@[simp] noncomputable def gX:D->String
 |.non=>"NoneType" | .bl _=>"bool" | .int _=>"int" | .str _=>"str" | .ty _=>"type" | .tup _=>"tuple" | .lst _=>"list" | .dk _ _=>"dict" | .dt _ _=>"dict"
@[simp] noncomputable def xi:D->Bool
 |.ty _=>true
 |_=>false
@[simp] noncomputable def xj (t n:String):OB :=
 if n = "int" then some (.bl (t == "int" || t == "bool"),false)else if n = "bool" then some (.bl (t == "bool"),false)else if n = "str" then some (.bl (t == "str"),false)
 else if n = "list" then some (.bl (t == "list"),false)else if n = "tuple" then some (.bl (t == "tuple"),false)else none
@[simp] def bi:LD->OB
 |[d,.ty n]=>if xi d=true then none else xj (gX d) n
 |_=>none
def Jb {ah:AO}{σ:St}{H:Hp}{s:Shared}{A:Around}{E:QV}{Q:QV}{c:Value}{b:Bool}{v:V}{d:D}{u:Value}(I:Inv X ah σ H s)(i:Is X.K H v d)(hd:∀n,d≠.ty n)(G:be v u)(e:PySem.W.kitOne X.K (.type (gX d)) c=some b)(h:∀tk,Q (.bool b) { s with toks:=tk }):
  wpAny (model X.prog X.w) A (call (.builtin "isinstance") [u,c]) Q E s:=by
 cases i with
 |non=>exact io I G .non e h
 |bl y=>exact io I G (.bl y) e h
 |int y=>exact io I G (.int y) e h
 |str y=>exact io I G (.str y) e h
 |ty n=>exact absurd rfl (hd n)
 |dk h1 _ _=>exact io I G (.dK h1) e h
 |dt h1 _ _=>exact io I G (.dT h1) e h
 |tup M _=>
  cases G
  obtain⟨its,_,⟨o,h1,h2,_⟩,_⟩:=I.tuple M;exact kia_one PySem.W.kitx_tuple I.kIn ⟨o,h1,h2⟩ e (λz=>nomatch z) h
 |lst hl _=>
  cases G
  obtain⟨its,_,⟨o,n,h1,h2,_⟩,_⟩:=I.list hl;exact kia_one PySem.W.kitx_list I.kIn ⟨o,h1,h2⟩ e (λz=>nomatch z) h
def F4 (K:Frag)(d:D)(hd:∀n,d≠.ty n):
  PySem.W.kitOne K (.type (gX d)) (.type "int")=some (gX d == "int" || gX d == "bool")/\PySem.W.kitOne K (.type (gX d)) (.type "bool")=some (gX d == "bool")/\PySem.W.kitOne K (.type (gX d)) (.type "str")=some (gX d == "str") /\
   PySem.W.kitOne K (.type (gX d)) (.type "list")=some (gX d == "list")/\PySem.W.kitOne K (.type (gX d)) (.type "tuple")=some (gX d == "tuple"):=by
 cases d<;>(first|exact absurd rfl (hd _)|skip)
 all_goals (simp only[gX];refine⟨?_,?_,?_,?_,?_⟩<;>kernel_rfl)
def b9:c8 X (.builtin "isinstance") (EA X.K bi):=by
 intro ah s σ H xs us Q I M q;obtain⟨B,ds,d,b,G,i,e,q⟩:=q;cases i with
 |nil=>cases e
 |cons i1 i=>cases i with
 |nil=>cases e
 |cons i2 i=>
  cases i2<;>try (cases e;done)
  cases i<;>try (cases e;done)
  rename_i dx n;obtain⟨O,u2,rfl,T,U⟩:=EQ M;cases U
  simp only[bi]at e;split at e
  ·cases e
  ·rename_i ht;have hd:∀n,dx≠.ty n:=λn z=>by subst z;exact ht rfl
   obtain⟨k1,k2,k3,k4,k5⟩:=F4 X.K dx hd;have ju:∀ {k:Bool},PySem.W.kitOne X.K (.type (gX dx)) (.type n)=some k->Fin X.K B H (.bl k) false Q->wq X (call (.builtin "isinstance") [O,.type n]) (EP X ah σ Q) X.xe s:=λ{k} hk q=>
    Jb I (i1.mono G) hd T hk λtk=>⟨.bl k,H,I.tok tk,rfl,q.one G (.bl k)⟩
   unfold xj at e;split at e
   ·rename_i z;subst z;cases e;exact ju k1 q
   split at e
   ·rename_i z;subst z;cases e;exact ju k2 q
   split at e
   ·rename_i z;subst z;cases e;exact ju k3 q
   split at e
   ·rename_i z;subst z;cases e;exact ju k4 q
   split at e
   ·rename_i z;subst z;cases e;exact ju k5 q
   ·cases e
@[simp] def F5 (f:FE):FA:=λρ=>(f ρ).bind λx=>gM x.1
def BX (h:JE X e f):JI X tg e (F5 f):=by
 intro ah s σ H R I q;obtain⟨B,ρ,ds,sB,r,e',q⟩:=q;obtain⟨x,ex,es⟩:=oX e';obtain⟨xd,xb⟩:=x;cases xd<;>simp only[gM]at es<;>try (cases es;done)
 ·cases es
  refine LO h ah s σ H R I ⟨B,ρ,_,_,sB,r,ex,λv U N1 O i1 _=>?_⟩;cases i1 with
  |@tup a vs _ M hl=>
   refine⟨a,rfl,⟨vs,b8 O.nh M⟩,q _ U N1 O λi H2 s2=>⟨λd ed=>?_,λG=>⟨vs,b8 s2 M,by rw[hl.length];exact G⟩⟩⟩;obtain⟨v,T,iv⟩:=hl.get ed;refine⟨⟨vs,v,b8 s2 M,T⟩,λy H3 hy=>?_⟩;obtain⟨rfl,hy⟩:=hy;have:=hy vs (b8 s2 M);rw[T]at this;cases this;exact⟨N1,.refl s2,iv⟩
 ·cases es
  refine BE h ah s σ H R I ⟨B,ρ,_,_,sB,r,ex,λv U N1 O i1 _=>?_⟩;cases i1 with
  |@lst a vs _ M hl=>
   refine⟨a,rfl,⟨vs,O.nh.seq M⟩,q _ U N1 O λi H2 s2=>⟨λd ed=>?_,λG=>⟨vs,s2.seq M,by rw[hl.length];exact G⟩⟩⟩;obtain⟨v,T,iv⟩:=hl.get ed;refine⟨⟨vs,v,s2.seq M,T⟩,λy H3 hy=>?_⟩;obtain⟨rfl,hy⟩:=hy;have:=hy vs (s2.seq M);rw[T]at this;cases this;exact⟨N1,.refl s2,iv⟩
noncomputable def jJ (lo:Int)(n:Nat):LD:=(List.range n).map λ(k:Nat)=>.int (lo+(k:Int))
def F6 {K:Frag}{B:Hp}(lo:Int)(n:Nat):mM K (Qz lo n) B (jJ lo n):=by
 intro i H s;unfold jJ;refine⟨λd ed=>?_,λhl=>by rw[vI,length_range]at hl;exact hl⟩;rw[vA]at ed;obtain⟨k,ek,ed⟩:=oY ed;have hk:=vV ek;obtain⟨G,hk⟩:=hk;rw[length_range]at G;rw[List.getElem_range]at hk;subst hk;subst ed;refine⟨G,λx H' hy=>?_⟩;obtain⟨rfl,rfl⟩:=hy;exact⟨B,.refl s,.int _⟩
@[simp] def md (f:FE):FA:=λρ=>match f ρ with
 |some (.int j,_)=>if -1000<=j/\j<=1000 then some (jJ 0 j.toNat)else none
 |_=>none
def qS (hm:X.mg "range" = none)(h:JE X a f)(M:Gl X "range":=by rfl)(hs:starEach [a] X.env=[(false,eval a X.env)]:=by rfl):PI X tg (.Call (.Name "range" p) [a] [] pos) (Q2 X.K (md f)):=by
 refine PI.to (Dv M hm (ai h ao hs) hs) λσ H R q=>?_;obtain⟨B,ρ,ds,O,r,G,q⟩:=q;unfold md at G;split at G
 ·rename_i j b' T;split at G
  ·rename_i hj;cases G
   refine⟨B,ρ,[.int j],O,r,by simp[ag,aj,T],λvs U N1 x1 i1=>?_⟩;cases i1 with
   |cons i1 i2=>
    cases i1;cases i2
    exact⟨j,rfl,by omega,by omega,q _ U N1 x1 λ_=>F6 0 j.toNat⟩
  ·cases G
 ·cases G
end
def c6 (K:Frag)(x:Str)(st:Stmt):Prop:=∃(f:Addr)(fd:FuncData),Nv K x x st f fd/\nsIn K mainGlobals x=some (some (.ref f))
def def_mk {K:Frag}{x:Str}{st:Stmt}{f:Addr}{oc:Value}{od an:Option Addr}{lY:Array (Option Value)}{kV doc pm cV ct:Value}(a:nsIn K mainGlobals x=some (some (.ref f)))
  (l:K.lookup f=some ⟨oc,od,.func (fnOf x x (dN st) (ca st) (aL st) .none kV doc pm an cV ct),lY⟩) (c:PySem.W.codeIn K cV x=true) (k:PySem.W.keepIn K (.ref f)=true):c6 K x st:=⟨f,_,Mi l c k,a⟩
section
variable {P:Program}{w:World}{K:Frag}{mg:SV}{base:Heap}
def c6.fn {x:Str}{st:Stmt}{N ps:LS}{k:Nat}{g:FS}{h:Heap}(F:c6 K x st)(X:K.In h)(G:h.Ns mainGlobals mg)(S:FnScope N ps (aL st))
  (M:∀(kV doc pm:Value)(an:Option Addr)(cV ct:Value)(us:LU),us.length=ps.length->bindArgs (fnOf x x (dN st) (ca st) (aL st) .none kV doc pm an cV ct) ⟨us,[]⟩=pure (ps.zip us))
  (hb:∀(f:Addr)(cV:Value)(A:Around)(outer:List PySem.Env)(s:Shared)(H:Hp)(E:XK),eJ k (A.deeper (envOfC x (aL st) s.heap.objs.size f cV))->tY (ot yc P w K mg base N x (aL st) f cV A outer s H E).nox (ca st) g):
  Fn P w K mg base (k+1) x (aD g ps.length (N.length - ps.length)):=by
 obtain⟨f,fd,O,a⟩:=F;exact⟨f,fd,ps,OT O S (hb f),mg_of X G a,O.kp,O.binds M⟩
end
def OX (H:Hp):Prop:=∀b,H b=none∨(∃o xs,H b=some (.frz o (.lst xs)))∨∃q,H b=some (.tbl q)
noncomputable def qT (M:List (Addr×Str))(G:Hp):Hp:=λb=>match M.lookup b with|some q=>some (.tbl q)|none=>G b
def gN (e:tabs.lookup b=some q):qT tabs G b=some (.tbl q):=by unfold qT;rw[e]
def jy (e:tabs.lookup b=none):qT tabs G b=G b:=by unfold qT;rw[e]
def DD {P:Program}{w:World}{K:Frag}{mg mb:SV}{k:Nat}{fa a:Addr}{fd:FuncData}{x:Str}{sp:Sp}{M:Shared}{vs:LU}{ns:LI}(O:List (Addr×Str))
  (ht:∀b q,O.lookup b=some q->M.heap.get? b=some (PySem.W.tabObj #[])/\isCodeTable M.heap b) (Ws:PySem.W.noTabs K=true)
  (KX:K.In M.heap) (Nx:M.heap.Ns mainGlobals mg) (hb:M.heap.Ns builtinsNs mb) (Wt:∀x:Str,x ≠ "__name__"->mb x=bootBuiltins x) (Sr:M.heap.NoLimit)
  (Wu:∃bm ob,mg "__builtins__" = some (.ref bm)/\bm≠builtinsNs/\M.heap.get? bm=some ob/\ob.cls=.type "module"/\ob.dict=some builtinsNs/\ob.data=.plain) (hg:M.gens=#[])
  (ha:M.heap.get? a=some { cls:=.type "list",data:=.seq vs.toArray }) (hi:IntsAre vs ns) (hl:ns.length<=sizeLine) (hr:eJ k callerA)
  (F:∀base:Heap,K.In base->base.Ns mainGlobals mg->tR P w K mg base yc k fa fd [x] sp) (Qd:∀(s:Shared)(u:Value),BindsTo s fd ⟨[u],[]⟩ [(x,u)])
  (QH:∀H:Hp,(∀b q,O.lookup b=some q->H b=some (.tbl q))->gT K H a (ns.map V.int)->sp [.ref a] H (λv _=>v=.bl true) λ_ _ _=>False):
  codeAny (model P w) callerA (.call (.ref fa) ⟨[.ref a],[]⟩) (λr s'=>r=.ok (.ret (.bool true))/\OldK M.heap s'.heap/\s'.os=M.os/\AllBare s'.gens) M:=by
 have rv:=L2.jx hi;have Ss:=hi.length;have Qe:∀H:Hp,OX H->(∀b q,O.lookup b=some q->H b=some (.tbl q))->gT K H a (ns.map V.int)->lJ P w H M.heap->(∀b q,H b=some (.tbl q)->M.heap.get? b=some (PySem.W.tabObj #[])/\isCodeTable M.heap b) ->
   (∀b o u,H b=some (.frz o u)->b=a)->(∀b o u,H b=some (.frz o u)->K.lookup b=none) ->
   codeAny (model P w) callerA (.call (.ref fa) ⟨[.ref a],[]⟩) (λr s'=>r=.ok (.ret (.bool true))/\OldK M.heap s'.heap/\s'.os=M.os/\AllBare s'.gens) M:=by
  intro H hO hT hS hok hA hB hK;have Wv:∀ {b:Addr}{o:Obj},M.heap.get? b=some o->(o.cls≠.none)->(o.cls≠.type "list")->H b=none:=λ{b o} e d d'=>by
   rcases hO b with q|⟨ob,xs,q⟩|⟨u,q⟩
   ·exact q
   ·have e':b=a:=hB b _ _ q;subst e';rw[ha]at e;cases e;exact absurd rfl d'
   ·rw[(hA b u q).1]at e;cases e;exact absurd rfl d
  have Ww:∀ {b:Addr}{o:Obj}{es:Array DictEntry}{ep:Nat},M.heap.get? b=some o->o.data=.dict es ep->H b=none:=λ{b o es ep} e d=>by
   rcases hO b with q|⟨ob,xs,q⟩|⟨u,q⟩
   ·exact q
   ·have e':b=a:=hB b _ _ q;subst e';rw[ha]at e;cases e;cases d
   ·rw[(hA b u q).1]at e;cases e;cases d
  have QN:∀ {b:Addr}{m:SV},M.heap.Ns b m->(yg M.heap H).Ns b m:=λ{b m} ⟨o,es,ep,e,d,r⟩=>⟨o,es,ep,q8 e (Ww e d),d,r⟩;have Um:K.In (yg M.heap H):=λb o e=>q8 (KX b o e) (by
   rcases hO b with q|⟨ob,xs,q⟩|⟨u,q⟩
   ·exact q
   ·rw[hK b _ _ q]at e;cases e
   ·have z:=(hA b u q).1;rw[KX b o e]at z;cases z
    have:=uR Ws _ (PySem.W.mem_of_lookupK e);simp at this)
  have hM:Mod K mg (yg M.heap H):=⟨Um,QN Nx,⟨mb,QN hb,Wt⟩,let ⟨mc,h1,h2⟩:=Sr;⟨mc,QN h1,h2⟩,by
   obtain⟨bm,ob,b1,b2,b3,b4,b5⟩:=Wu;exact⟨bm,ob,b1,b2,q8 b3 (Wv b3 (by rw[b4];exact λz=>nomatch z) (by rw[b4];intro z;injection z with z;exact absurd z (by decide))),b4,b5⟩⟩
  have e0:Env0 P w K mg (yg M.heap H) callerA [] M H:=⟨rfl,hM,λb o e=>Ik e,le_of_eq (Ds _ _),trivial,λb hb=>absurd (show b∈([]:List Addr)from hb) (by simp),hok,.of_eq hg⟩;refine codeAny_mono ((F _ Um (QN Nx)).run callerA [] M H ⟨[.ref a],[]⟩ [.ref a] [.ref a] _ _ hr e0 (Qd M (.ref a)) (.cons rfl .nil) (QH H hT hS)) λr s' h=>?_;cases r with
  |error e=>exact False.elim h
  |ok fl=>
   cases fl with
   |next=>exact False.elim h
   |brk=>exact False.elim h
   |cont=>exact False.elim h
   |ret u=>
    obtain⟨v,H',os,bare,un,Qf,r',q⟩:=h;have q':v=.bl true:=q;subst q';obtain rfl:u=Value.bool true:=r';have kp:∀b o,H b=none->M.heap.get? b=some o->s'.heap.get? b=some o:=λb o n e=>un.keep b o e n (by intro z;exact absurd (show b∈([]:List Addr)from z) (by simp)) (by simp);refine⟨rfl,⟨λb o e=>?_,λb o e=>un.there b o e (by simp)⟩,os,bare⟩;rcases hO b with z|⟨ob,xs,z⟩|⟨u,z⟩
    ·exact .inl (kp b o z e)
    ·have z2:=un.frzs b ob _ z;obtain⟨e1,_⟩:=hok b _ z;obtain⟨e2,_⟩:=Qf b _ z2;rw[e]at e1;cases e1;exact .inl e2
    ·obtain⟨e1,e2⟩:=hA b u z;rw[e]at e1;cases e1;obtain⟨ps,e3,_⟩:=Qf b _ (un.tbls b u z);exact .inr (.inl ⟨e2,rfl,#[],ps,rfl,by simpa using e3⟩)
 have Ny:∀q,O.lookup a≠some q:=λq z=>by
  have:=(ht a q z).1;rw[ha]at this;cases this
 have ta:O.lookup a=none:=by
  cases z:O.lookup a with
  |none=>rfl
  |some q=>exact absurd z (Ny q)
 have U:∀(G:Hp) b q,O.lookup b=some q->bR P w (qT O G) M.heap b (.tbl q):=λG b q z=>⟨#[],(ht b q z).1,trivial,λpos cv c=>by cases c⟩;cases hk:K.lookup a with
 |some o=>
  have e:=KX a o hk;rw[ha]at e;cases e
  refine Qe (qT O λ_=>none) (λb=>?_) (λb q z=>gN z) (.inr ⟨_,vs.toArray,_,hk,rfl,rfl,rfl,by rw[vH,Ss];exact hl,by simpa using rv⟩) (λb u z=>?_) (λb q z=>?_) (λb o u z=>?_) λb o u z=>?_
  all_goals cases T:O.lookup b with
   |none=>first|exact .inl (jy T)|(rw[jy T]at z;cases z)
   |some q'=>first|exact .inr (.inr ⟨q',gN T⟩)|(rw[gN T]at z;cases z;done)|(rw[gN T]at z;cases z;first|exact U _ b _ T|exact ht b _ T)
 |none=>
  refine Qe (qT O λb=>if b=a then some (.frz { cls:=.type "list",data:=.seq vs.toArray } (.lst (ns.map V.int)))else none) (λb=>?_) (λb q z=>gN z) (.inl (.inr ⟨{ cls:=.type "list",data:=.seq vs.toArray },by rw[jy ta,if_pos rfl]⟩)) (λb u z=>?_) (λb q z=>?_) (λb o u z=>?_) λb o u z=>?_
  all_goals cases T:O.lookup b with
   |some q'=>first|exact .inr (.inr ⟨q',gN T⟩)|(rw[gN T]at z;cases z;done)|(rw[gN T]at z;cases z;first|exact U _ b _ T|exact ht b _ T)
   |none=>
    first
    |rw[jy T]at z
    |rw[jy T]
    by_cases hb:b=a
    ·first
     |rw[if_pos hb]at z
     |rw[if_pos hb]
     first
     |exact .inr (.inl ⟨_,_,rfl⟩)
     | (cases z;subst hb;exact⟨ha,by rw[vI];exact hl,vs,_,rv,ha⟩)
     |exact hb
     | (rw[hb];exact hk)
     |cases z
    ·first
     | (rw[if_neg hb]at z;cases z)
     |exact .inl (if_neg hb)
noncomputable def xl (L:List (Str×Option (Addr×Addr))):List (Addr×Str):=L.filterMap λp=>p.2.map λq=>(q.2,qF p.1)
structure qz (K:Frag)(L:List (Str×Option (Addr×Addr))):Prop where
 names:L=mJ.map λx=>(x,PySem.W.tabIn K x)
 apart:((xl L).map (·.1)).Nodup
 none:PySem.W.noTabs K=true
theorem lL {α G:Type}[BEq α][LawfulBEq α]:∀ {l:List (α×G)}{a:α}{b:G},(l.map (·.1)).Nodup->(a,b)∈l->l.lookup a=some b
 | (c,d)::l,a,b,nd,h=>by
  rw[lookup_cons];rcases vP h with e|h
  ·cases e;simp
  ·have ne:a≠c:=λz=>(nodup_cons.mp nd).1 (by rw[←z];exact uS ⟨(a,b),h,rfl⟩);rw[show(a == c)=false by simpa using ne];exact lL (nodup_cons.mp nd).2 h
theorem kF {α G:Type}[BEq α][LawfulBEq α]:∀ {l:List (α×G)}{a:α}{b:G},l.lookup a=some b->(a,b)∈l
 | (c,d)::l,a,b,h=>by
  rw[lookup_cons]at h;cases e:a == c with
  |true=>rw[e]at h;cases h;rw[eq_of_beq e];exact mX
  |false=>rw[e]at h;exact mZ _ (kF h)
def qz.tb {K:Frag}{L:List (Str×Option (Addr×Addr))}(F:qz K L){H:Hp}(h:∀b q,(xl L).lookup b=some q->H b=some (.tbl q)):Tb K H:=λx hx c P e=>by
 refine h P (qF x) (lL F.apart ?_);rw[F.names];exact mem_filterMap.mpr ⟨(x,PySem.W.tabIn K x),uS ⟨x,hx,rfl⟩,by rw[e];rfl⟩
def tab_yes {K:Frag}{x:Str}{f c P:Addr}{oc M:Value}{od O:Option Addr}{lY G:Array (Option Value)}{fd:FuncData}{vs:AV}(T:nsIn K mainGlobals x=some (some (.ref f)))(e2:K.lookup f=some ⟨oc,od,.func fd,lY⟩)(U:fd.code=.ref c)
  (e4:K.lookup c=some ⟨M,O,.fields vs,G⟩) (e5:vs[11]? = some (.ref P)):PySem.W.tabIn K x=some (c,P):=by unfold PySem.W.tabIn;simp only[T,e2,U,e4,e5]
def tabs_fit {K:Frag}{G M O T:Option (Addr×Addr)}(h0:PySem.W.tabIn K "in_order" = G)(h1:PySem.W.tabIn K "has_seal" = M)(h2:PySem.W.tabIn K "is_first_death" = O)(h3:PySem.W.tabIn K "bases_by" = T)
  (U:((xl [("in_order",G),("has_seal",M),("is_first_death",O),("bases_by",T)]).map (·.1)).Nodup) (nt:PySem.W.noTabs K=true):qz K [("in_order",G),("has_seal",M),("is_first_death",O),("bases_by",T)] :=
 ⟨by subst h0;subst h1;subst h2;subst h3;rfl,U,nt⟩
def walkD {l:PySem.W.OpenLaw}{q:Program}{O:LS}{XP:SV->Heap->Prop}{YP:World->Heap->Prop}{d:DefRec}{K:Params->Frag}{k:Nat}{x:Str}{f:LD->OB}{L:List (Str×Option (Addr×Addr))}(hn:l.most=some 63)(Sl:d.params.defaults=[])(hr:eJ k callerA)
  (hY:∀(w:World)(h:Heap),YP w h->(K w.params).In h) (hT:∀w:World,qz (K w.params) L) (hD:(L.all λp=>p.2.isNone || ((recsOf q).find? λe=>e.name == p.1).isSome)=true)
  (F:∀(w:World)(mg:SV)(fa:Addr)(h:Heap),(K w.params).In h->h.Ns mainGlobals mg->mg d.name=some (.ref fa) ->
   ∃fd:FuncData,(∀(s:Shared)(u:Value),BindsTo s fd ⟨[u],[]⟩ [(x,u)])/\∀base:Heap,(K w.params).In base->base.Ns mainGlobals mg->tR l.prog w (K w.params) mg base yc k fa fd [x] (Fv (K w.params) f))
  (ht:∀ns:LI,ns.length<=63->∃b,f [.lst (ns.map .int)]=some (.bl true,b)):PySem.W.WalkO q O XP YP l.row.toRowW d [] (λf vs=>PySem.call f vs):=by
 refine Att.ym hn Sl λw s₀ s₁ mg mb fa o pm cd doc a vs ns G Y ho hd K4 hmg Nu U M hg=>?_;have KX:=hY w _ Y;obtain⟨fd,hb,hF⟩:=F w mg fa _ KX G.T.g hmg;refine DD (xl L) (λb u e=>?_) (hT w).none KX G.T.g G.T.b G.T.builtins G.T.nolimit G.T.bmain hg Nu U (vR M (by decide)) hr hF hb λH hH hS=>?_
 ·obtain⟨p,hp,e2⟩:=mem_filterMap.mp (kF e);obtain⟨⟨c,P⟩,e3,e4⟩:=oY e2;cases e4
  have Su:=uR hD p hp;rw[e3]at Su;rw[isNone_some,Bool.false_or]at Su;obtain⟨r,Wx⟩:=uU Su;have Wy:PySem.W.tabIn (K w.params) p.1=some (c,P):=by
   rw[(hT w).names]at hp;obtain⟨y,_,rfl⟩:=vO hp;exact e3
  obtain⟨h1,h2⟩:=PySem.W.tab_of G.T KX Wx Wy;exact⟨h2,(h1.tab h2).isCodeTable⟩
 ·obtain⟨b,e⟩:=ht ns M;exact⟨H,_,_,b,⟨.refl H,(hT w).tb hH⟩,.cons (.lst hS (.flat rfl)) .nil,e,λv H' N x' i' _=>by cases i';rfl⟩
def c6.law {P:Program}{w:World}{K:Frag}{mg:SV}{x y:Str}{st:Stmt}{N:LS}{k:Nat}{g:FS}{h:Heap}{fa:Addr}(F:c6 K x st)(X:K.In h)(G:h.Ns mainGlobals mg)(M:mg x=some (.ref fa))(S:FnScope N [y] (aL st))
  (O:∀(kV doc pm:Value)(an:Option Addr)(cV ct:Value)(u:Value),bindArgs (fnOf x x (dN st) (ca st) (aL st) .none kV doc pm an cV ct) ⟨[u],[]⟩=pure [(y,u)])
  (hb:∀(base:Heap),K.In base->base.Ns mainGlobals mg->∀(f:Addr)(cV:Value)(A:Around)(outer:List PySem.Env)(s:Shared)(H:Hp)(E:XK),eJ k (A.deeper (envOfC x (aL st) s.heap.objs.size f cV))->tY (ot yc P w K mg base N x (aL st) f cV A outer s H E).nox (ca st) g):
  ∃fd:FuncData,(∀(s:Shared)(u:Value),BindsTo s fd ⟨[u],[]⟩ [(y,u)])/\∀base:Heap,K.In base->base.Ns mainGlobals mg->tR P w K mg base yc (k+1) fa fd [y] (Fv K (aD g 1 (N.length - 1))):=by
 obtain⟨f,fd,T,a⟩:=F;have e:=M.symm.trans (mg_of X G a);cases e
 refine⟨fd,λs u=>?_,λbase U nb=>OT T S (hb base U nb _)⟩;obtain⟨oc,od,kV,doc,pm,an,cV,ct,lY,rfl,lk,K4⟩:=T.ex;exact .of_eq (O kV doc pm an cV ct u)
section
variable {X:Cx}{a b e:Expr}{pos:Pos}{x:Str}{p:Pos}
@[simp] noncomputable def Jc:D->D->OB
 |.lst xs,.lst ys=>if xs.length+ys.length<=sizeLine then some (.lst (xs++ys),true)else none
 |_,_=>none
def My:dL X (binaryOp .Add) (rD X.K Jc):=by
 intro ah s σ H x y v u Q I rx ry q;obtain⟨B,dx,dy,d,bb,T,ix,iy,O,q⟩:=q;cases ix<;>try (cases O;done)
 all_goals (cases iy<;>try (cases O;done))
 rename_i l vs ds h hl l' ws es h' M;simp only[Jc]at O;split at O
 ·rename_i hz;cases O
  cases rx
  cases ry
  obtain⟨its,U,p1,z1⟩:=I.list (T.seq h);obtain⟨G,r2,p2,z2⟩:=I.list (T.seq h');obtain⟨⟨c1,d1,t1,s1⟩,o1,e1,n1,k1⟩:=p1.isList;obtain⟨⟨c2,d2,t2,s2⟩,o2,e2,n2,k2⟩:=p2.isList;dsimp only at e1 k1 e2 k2;subst e1;subst k1;subst e2;subst k2;have hsz:its.toArray.size+G.toArray.size<=sizeLine:=by
   rw[vH,vH,←U.length,←r2.length,hl.length,M.length];exact hz
  have ea:its.toArray++G.toArray=(its++G).toArray:=by simp
  refine concat_meets ⟨_,o1,rfl⟩ ⟨_,o2,rfl⟩ noFill_list_add seq_list_add PySem.F.slot_list_add PySem.F.entry_list_add (PySem.F.args_list_add_2 _ _) (list_addW l l' its.toArray G.toArray n1 n2 d1 d2 s1 s2 hsz) ⟨o1,o2,?_⟩;rw[ea];have xt:=Ext.laid (o:=.lst (vs++ws)) T I.fresh;have il:=(hl.append M).mono xt.bn;exact⟨.ref s.heap.objs.size,_,I.lnew (t':=s.toks) (U.append r2) (by rw[uZ,hl.length,M.length];exact hz),rfl,q _ _ _ xt (.lst (gT.of aB) il) λ_=>⟨_,_,_,rfl,rfl,I.fresh,aB,il⟩⟩
 ·cases O
@[simp] noncomputable def ua:D->D->OB
 |.tup xs,.tup ys=>if xs.length+ys.length<=sizeLine/\xs.isEmpty=false then some (.tup (xs++ys),false)else none
 |_,_=>none
def F7:dL X (binaryOp .Add) (rD X.K ua):=by
 refine jg IB λx y H Q q=>?_;obtain⟨B,dx,dy,d,bb,O,ix,iy,M,q⟩:=q;cases ix<;>try (cases M;done)
 all_goals (cases iy<;>try (cases M;done))
 rename_i l vs ds h hl l' T es h' G;simp only[ua]at M;split at M
 ·rename_i hz;cases M
  have l1:=hl.length;have l2:=G.length;refine⟨l,l',vs,T,rfl,rfl,b8 O h,b8 O h',λz=>?_,by omega,λz=>?_,λ_ pp hp=>?_⟩
  ·subst z;cases hl
   simp at hz
  ·subst z;cases G
   rw[uQ]at q;exact q.one O (.tup h hl)
  ·have U:=Ext.laid (o:=.tup (vs++T)) O hp;exact q _ _ _ U (.tup (js.of aB) ((hl.append G).mono U.bn)) (by simp)
 ·cases M
@[simp] noncomputable def F8:D->D->OB
 |.bl i,.int j=>some (.int ((if i=true then 1 else 0)+j),false)
 |.int i,.bl j=>some (.int (i+b2i j),false)
 |_,_=>none
def Mz:dL X (binaryOp .Add) (rD X.K F8):=by
 intro ah s σ H x y v u Q I M O q;obtain⟨B,dx,dy,d,bb,T,U,iy,G,q⟩:=q;cases U<;>try (cases G;done)
 all_goals (cases iy<;>try (cases G;done))
 ·simp only[F8]at G;cases G
  cases M
  obtain⟨t,rfl⟩:=O;exact IntBool.add_bool_int ⟨.int _,H,I.tok _,⟨_,rfl⟩,q.one T (.int _)⟩
 ·simp only[F8]at G;cases G
  exact Dy ah s σ H _ _ v u Q I M O ⟨_,_,rfl,rfl,q.one T (.int _)⟩
@[simp] noncomputable def fw:D->D->OB
 |.int i,.int j=>some (.int (i+j),false)
 |.str i,.str j=>if i.length+j.length<=sizeLine then some (.str (i++j),false)else none
 |.lst xs,.lst ys=>if xs.length+ys.length<=sizeLine then some (.lst (xs++ys),true)else none
 |.tup xs,.tup ys=>if xs.length+ys.length<=sizeLine/\xs.isEmpty=false then some (.tup (xs++ys),false)else none
 |.bl i,.int j=>some (.int ((if i=true then 1 else 0)+j),false)
 |.int i,.bl j=>some (.int (i+b2i j),false)
 |_,_=>none
def dv:dL X (binaryOp .Add) (rD X.K fw):=by
 refine jg (r:=rD X.K (EB BV (EB Jc (EB ua F8)))) (oy Ja (oy My (oy F7 Mz))) λx y H Q q=>?_;obtain⟨B,dx,M,d,bb,O,T,U,G,q⟩:=q;refine⟨B,dx,M,d,bb,O,T,U,?_,q⟩;cases dx<;>try (cases G;done)
 all_goals (cases M<;>try (cases G;done))
 all_goals (simp[fw]at G;simp[EB,BV,Jc,ua,F8,G])
@[simp] noncomputable def R4:D->Option Bool
 |.bl b=>some b
 |_=>none
def ub:LD->Option (List Bool)
 |[]=>some []
 |d::ds=>(R4 d).bind λb=>(ub ds).map (b :: ·)
@[simp] def OY:ub []=some []:=rfl
@[simp] def DE (d:D)(ds:LD):ub (d::ds)=(R4 d).bind λb=>(ub ds).map (b :: ·):=rfl
theorem xm {K:Frag}{B:Hp}:∀ {vs:LV}{ds:LD}{bs:List Bool}{its:LU},L2.b7 vs its->IsL K B vs ds->ub ds=some bs->its=bs.map Value.bool
 |_,_,_,_,.nil,.nil,e=>by cases e;rfl
 |_,_,_,_,.cons r M,.cons i O,e=>by
  rw[DE]at e;obtain⟨b,G,e⟩:=oX e;obtain⟨bs,e2,e⟩:=oY e;subst e;cases i<;>simp only[R4]at G<;>try (cases G;done)
  cases G
  cases r
  rw[xm M O e2];rfl
@[simp] def yB:LD->OB
 |[.lst ds]=>(ub ds).map λbs=>(.bl (bs.all id),false)
 |_=>none
@[simp] def F9:LD->OB
 |[.lst ds]=>(ub ds).map λbs=>(.bl (bs.any id),false)
 |_=>none
def yC (hc:X.calm=true:=by rfl):c8 X (.builtin "all") (EA X.K yB):=by
 intro ah s σ H xs us Q I rs q;obtain⟨B,ds,d,bb,sB,i,G,q⟩:=q;match ds,i,G with
 |[.lst es],.cons i1 .nil,G=>
  obtain⟨bs,eb,G⟩:=oY G;cases G
  obtain⟨u1,rfl,r1⟩:=jX rs;cases i1 with
  |@lst l vs _ h hl=>
   cases r1
   obtain⟨its,rv,T,z1⟩:=I.list (sB.seq h);have ei:=xm rv hl eb;have U:l<s.heap.objs.size:=by obtain⟨_,M,_⟩:=T.isList;exact vX M
   refine call_all_walk (wpAny_pyIter_list T.isList ⟨_,_,_,_,_,_,λj=>(bs[j]?).getD true,rfl,Walks.list (A:=X.A.in1) (I.ok.hd hc) s.heap.objs.size l (vS U) its.toArray,⟨⟨_,vY _ rfl,rfl,rfl⟩,T.isList.push _⟩,λj v s' Q' E' hP hQ=>?_,λh' tk hk=>?_⟩)
   ·have O:its[j]? = some v:=by simpa using hP
    rw[ei,vA]at O;obtain⟨c,e1,e2⟩:=oY O;subst e2;dsimp only at hQ;rw[e1]at hQ;exact wpAny_truthy_bool hQ
   ·have ea:((List.range its.toArray.size).all λj=>(bs[j]?).getD true)=bs.all id:=by
     rw[vH,ei,vI];exact LSm.range_all bs
    rw[ea];refine⟨.bl _,H,I.kept λc o M=>?_,rfl,q.one sB (.bl _)⟩;exact hk c o (λhm=>by rw[uT hm]at M;exact Nat.lt_irrefl _ (vX M)) (vZ _ M)
def Lb (hc:X.calm=true:=by rfl):c8 X (.builtin "any") (EA X.K F9):=by
 intro ah s σ H xs us Q I rs q;obtain⟨B,ds,d,bb,sB,i,G,q⟩:=q;match ds,i,G with
 |[.lst es],.cons i1 .nil,G=>
  obtain⟨bs,eb,G⟩:=oY G;cases G
  obtain⟨u1,rfl,r1⟩:=jX rs;cases i1 with
  |@lst l vs _ h hl=>
   cases r1
   obtain⟨its,rv,T,z1⟩:=I.list (sB.seq h);have ei:=xm rv hl eb;have U:l<s.heap.objs.size:=by obtain⟨_,M,_⟩:=T.isList;exact vX M
   refine call_any_walk (wpAny_pyIter_list T.isList ⟨_,_,_,_,_,_,λj=>(bs[j]?).getD false,rfl,Walks.list (A:=X.A.in1) (I.ok.hd hc) s.heap.objs.size l (vS U) its.toArray,⟨⟨_,vY _ rfl,rfl,rfl⟩,T.isList.push _⟩,λj v s' Q' E' hP hQ=>?_,λh' tk hk=>?_⟩)
   ·have O:its[j]? = some v:=by simpa using hP
    rw[ei,vA]at O;obtain⟨c,e1,e2⟩:=oY O;subst e2;dsimp only at hQ;rw[e1]at hQ;exact wpAny_truthy_bool hQ
   ·have ea:((List.range its.toArray.size).any λj=>(bs[j]?).getD false)=bs.any id:=by
     rw[vH,ei,vI];exact LSm.range_any bs
    rw[ea];refine⟨.bl _,H,I.kept λc o M=>?_,rfl,q.one sB (.bl _)⟩;exact hk c o (λhm=>by rw[uT hm]at M;exact Nat.lt_irrefl _ (vX M)) (vZ _ M)
def Lc:bootBuiltins "any" = some (.builtin "any"):=by decide +kernel
end
noncomputable def Q5 (z:Str):It:=⟨λi _=>i<z.cps.size,λi H v H'=>H'=H/\∃c,z.cps[i]? = some c/\v=.str ⟨#[c]⟩,λi _=>z.cps.size<=i⟩
def yD {P:Program}{w:World}{K:Frag}{tg:Expr}(z:Str)(t:Tok)(it:Addr):Turn P w K tg (Q5 z) [it] it (λi h=>h.IsStrIter it "str_ascii_iterator" z t i) where
 mem:=mem_singleton.mpr rfl
 obj:=λi h st b hb=>by
  have T:=uT hb;subst T;obtain⟨o,M,_,d1⟩:=st;exact⟨o,M,λv zz=>by rw[d1]at zz;cases zz⟩
 keep:=λi h h' st k=>let ⟨o,M,r⟩:=st;⟨o,k it (mem_singleton.mpr rfl) o M,r⟩
 item:=by
  intro X U hw hK hc i ah s σ H E I hf st hg;subst U hw hK;have G:i<z.cps.size:=hg;obtain⟨f0,f1,f2,f3,f4,f5⟩:=hf it (mem_singleton.mpr rfl);refine wpAny_pyNext_ascii_item st (c:=z.cps[i]) (by simp[G]) λh' O sb=>?_;obtain⟨o,M,c1,d1⟩:=id O;exact⟨_,rfl,qA (s:={ s with heap:=h',toks:=s.toks+1 }) M c1 d1 (by decide) ⟨.str ⟨#[z.cps[i]]⟩,H,I.turned (λb o hb e2=>(sb.2 b hb).trans e2) f0 f1 f3 f4 f5,⟨_,rfl⟩,⟨rfl,_,by simp[G],rfl⟩,O,λb hb=>(hf b hb).1⟩⟩
 done:=by
  intro X U hw hK hc i ah s σ H E I hf st hg;subst U hw hK;have G:z.cps.size<=i:=hg;obtain⟨f0,f1,f2,f3,f4,f5⟩:=hf it (mem_singleton.mpr rfl);exact wpAny_pyNext_ascii_end (I.ok.hd hc) st (by simp;omega) λh' T=>⟨rfl,I.turned (t':=s.toks) (λb o hb e2=>T b o hb e2) f0 f1 f3 f4 f5⟩
 self:=λ_ _ _ _ _ st h=>wpAny_pyIter_striter_ascii st h
def yE {P:Program}{w:World}{K:Frag}{tg:Expr}(z:Str)(t:Tok)(it:Addr):Turn P w K tg (Q5 z) [it] it (λi h=>h.IsStrIter it "str_iterator" z t i) where
 mem:=mem_singleton.mpr rfl
 obj:=λi h st b hb=>by
  have T:=uT hb;subst T;obtain⟨o,M,_,d1⟩:=st;exact⟨o,M,λv zz=>by rw[d1]at zz;cases zz⟩
 keep:=λi h h' st k=>let ⟨o,M,r⟩:=st;⟨o,k it (mem_singleton.mpr rfl) o M,r⟩
 item:=by
  intro X U hw hK hc i ah s σ H E I hf st hg;subst U hw hK;have G:i<z.cps.size:=hg;obtain⟨f0,f1,f2,f3,f4,f5⟩:=hf it (mem_singleton.mpr rfl);refine wpAny_pyNext_wide_item st (c:=z.cps[i]) (by simp[G]) λh' O sb=>?_;obtain⟨o,M,c1,d1⟩:=id O;exact⟨_,rfl,qA (s:={ s with heap:=h',toks:=s.toks+1 }) M c1 d1 (by decide) ⟨.str ⟨#[z.cps[i]]⟩,H,I.turned (λb o hb e2=>(sb.2 b hb).trans e2) f0 f1 f3 f4 f5,⟨_,rfl⟩,⟨rfl,_,by simp[G],rfl⟩,O,λb hb=>(hf b hb).1⟩⟩
 done:=by
  intro X U hw hK hc i ah s σ H E I hf st hg;subst U hw hK;have G:z.cps.size<=i:=hg;obtain⟨f0,f1,f2,f3,f4,f5⟩:=hf it (mem_singleton.mpr rfl);exact wpAny_pyNext_wide_end (I.ok.hd hc) st (by simp;omega) λh' T=>⟨rfl,I.turned (t':=s.toks) (λb o hb e2=>T b o hb e2) f0 f1 f3 f4 f5⟩
 self:=λ_ _ _ _ _ st h=>wpAny_pyIter_striter_wide st h
section
variable {X:Cx}{a b e:Expr}{pos:Pos}{x:Str}{p:Pos}{tg:Expr}
def FC {l:Expr}{tl:TE}(hl:PE X l tl):PI X tg l (λσ H R=>tl σ H λx G=>∃z,x=.str z/\R (Q5 z) G):=by
 intro ah s σ H R I h;refine c7 (hl ah s σ H _ I h) λv s1 ⟨x,G,M,O,T⟩=>?_;obtain⟨z,rfl,q⟩:=T;obtain⟨t,rfl⟩:=O;have fp:∀b∈[s1.heap.objs.size],ma X ah G b:=λb hb=>by
  rw[uT hb];exact M.fpOk (vT _) (M.hok.fresh (vT _))
 cases ha:z.cps.all (· < 128) with
 |true=>exact wpAny_pyIter_ascii ha ⟨_,[s1.heap.objs.size],_,_,G,rfl,M.kept (t':=s1.toks) λb o e=>vZ _ e,yD z t _,⟨_,vY _ rfl,rfl,rfl⟩,fp,q⟩
 |false=>exact wpAny_pyIter_wide ha ⟨_,[s1.heap.objs.size],_,_,G,rfl,M.kept (t':=s1.toks) λb o e=>vZ _ e,yE z t _,⟨_,vY _ rfl,rfl,rfl⟩,fp,q⟩
noncomputable def BY (z:Str):LD:=z.cps.toList.map λc=>.str ⟨#[c]⟩
def FD {K:Frag}{B:Hp}(z:Str):mM K (Q5 z) B (BY z):=by
 intro i H s;refine⟨λd ed=>?_,λhl=>by unfold BY at hl;show z.cps.size<=i;simpa using hl⟩;unfold BY at ed;rw[vA]at ed;obtain⟨c,O,rfl⟩:=oY ed;have G:z.cps[i]? = some c:=by simpa using O
 refine⟨(Array.getElem?_eq_some_iff.mp G).1,λv H' hy=>?_⟩;obtain⟨rfl,T,M,rfl⟩:=hy;rw[G]at M;cases M;exact⟨B,.refl s,.str _⟩
@[simp] def M0:D->Option LD
 |.lst ds=>some ds
 |.tup ds=>some ds
 |.str z=>some (BY z)
 |_=>none
@[simp] def bM (f:FE):FA:=λρ=>(f ρ).bind λx=>M0 x.1
def bL (h:JE X e f):JI X tg e (bM f):=by
 intro ah s σ H R I q;obtain⟨B,ρ,ds,G,r,M,q⟩:=q;obtain⟨O,ex,es⟩:=oX M;obtain⟨xd,xb⟩:=O;cases xd with
 |lst l=>exact BX h ah s σ H R I ⟨B,ρ,ds,G,r,by unfold F5;rw[ex];exact es,q⟩
 |tup l=>exact BX h ah s σ H R I ⟨B,ρ,ds,G,r,by unfold F5;rw[ex];exact es,q⟩
 |str z=>
  cases es
  refine FC h ah s σ H R I ⟨B,ρ,_,_,G,r,ex,λv T N1 U i1 _=>?_⟩;cases i1
  exact⟨z,rfl,q _ T N1 U (FD z)⟩
 |_=>cases es
def Jd:E9 X (λx lo hi H Q=>∃z,x=.str z/\z.length<=sizeLine/\Q (.str (Txt.slice z lo hi)) H):=by
 intro ah s σ H x v vl T lo hi sl Q I O hs pl M h;obtain⟨z,rfl,hz,q⟩:=h;obtain⟨t,rfl⟩:=O;have ju:∀lo hi,Q (.str (Txt.slice z lo hi)) H->(Txt.slice z lo hi).length<=sizeLine/\∀t' k,EP X ah σ Q (.str (Txt.slice z lo hi) t') { s with toks:=k }:=λlo hi q=>
  ⟨vR (Txt.slice_le z _ _) hz,λt' k=>⟨.str _,H,I.tok k,⟨t',rfl⟩,q⟩⟩
 refine⟨"str",_,PySem.F.slot_str_getitem.lookup,typeIs_str _ _ _,?_⟩;cases pl with
 |none=>
  cases M with
  |none=>exact wpAny_getItem_str_slice (l:=none) (u:=none) (st:=none) hs rfl (post_val_or_str (ju _ _ q))
  |int j G=>exact wpAny_getItem_str_slice (l:=none) (u:=some (j,G)) (st:=none) hs rfl (post_val_or_str (ju _ _ q))
 |int i ti=>
  cases M with
  |none=>exact wpAny_getItem_str_slice (l:=some (i,ti)) (u:=none) (st:=none) hs rfl (post_val_or_str (ju _ _ q))
  |int j G=>exact wpAny_getItem_str_slice (l:=some (i,ti)) (u:=some (j,G)) (st:=none) hs rfl (post_val_or_str (ju _ _ q))
def DF {A:Around}{E:QV}{s:Shared}{prog:Program}{w:World}{t sl:Addr}{items:AV}{vl U:Value}{lo hi:OI}{Q:QV}(G:IsTup s.heap t items)(hs:s.heap.IsSliceOf sl vl U .none)(pl:IsPart vl lo)(pu:IsPart U hi)
  (h0:HT.dS items.size 0 lo=0) (h1:HT.dS items.size items.size hi=items.size) (h:Q (.ref t) s):wpAny (model prog w) A (getItem (.ref t) (.ref sl)) Q E s:=by
 obtain⟨os,M,O,Sk⟩:=id hs
 have hT:s.TypeIs (.ref sl) "slice":=⟨os,M,O⟩
 unfold getItem
 try with_reducible refine wpAny_holding ?_
 first|refine wX (wY ?_)|skip
 refine wX (wpAny_sequenceKey G.typeIs (by decide) ?_)
 refine wX (wpAny_callSpecial?_slot (name:=Str.ofString "__getitem__") G.typeIs PyProof.Rows.slot_tuple_getitem (wpAny_call_entry PyProof.Rows.slot_tuple_getitem G.typeIs entry_tuple_getitem ?_ (args_tuple_getitem _ _)))
 show wpAny _ _ (Builtin.Tuple.tupleItemsOf (.ref t)>>=_) _ _ s
 refine wX (tupleItemsOf_ G ?_)
 refine wX (wpAny_typeOf hT ?_)
 rw[if_pos (by decide)]
 refine wX (HT.jw hs pl pu ?_)
 have T:(((HT.dS items.size 0 lo:Nat):Int) == 0 && (1:Int) == 1 && (HT.dS items.size items.size hi - HT.dS items.size 0 lo) == items.size)=true:=by
  rw[h0,h1];simp
 show wpAny _ _ (if(((HT.dS items.size 0 lo:Nat):Int) == 0 && (1:Int) == 1 && (HT.dS items.size items.size hi - HT.dS items.size 0 lo) == items.size)=true then _ else _) _ _ s
 rw[if_pos T]
 refine wX ?_
 unfold Builtin.Tuple.tupleIsExact
 refine wX (wpAny_typeOf G.typeIs (wY ?_))
 show wpAny _ _ (if((Value.type "tuple") == Value.type "tuple")=true then _ else _) _ _ s
 rw[if_pos (by decide)]
 refine wX (wpAny_rule ?_)
 exact wY ⟨_,rfl,wY h⟩
def Je:E9 X (λx lo hi H Q=>∃a xs,x=.ref a/\js X.K H a xs/\HT.dS xs.length 0 lo=0/\HT.dS xs.length xs.length hi=xs.length/\Q (.ref a) H):=by
 intro ah s σ H x v vl U lo hi sl Q I O hs pl T h;obtain⟨a,xs,rfl,hx,h0,h1,q⟩:=h;cases O
 obtain⟨its,r,M,hz⟩:=I.tuple hx;have G:its.toArray.size=xs.length:=by rw[vH];exact r.length.symm
 refine⟨"tuple",_,PyProof.Rows.slot_tuple_getitem.lookup,M.typeIs,?_⟩;exact DF M hs pl T (by rw[G];exact h0) (by rw[G];exact h1) ⟨.ref a,H,I,rfl,q⟩
@[simp] def tT (fa:FE)(fl G:FO):FE:=λρ=>(fa ρ).bind λx=>(fl ρ).bind λl=>(G ρ).bind λh=>match x.1 with
 |.lst ds=>some (.lst (iR ds l h),true)
 |.tup ds=>some (.tup (iR ds l h),false)
 |.str z=>if z.length<=sizeLine then some (.str (Txt.slice z l h),false)else none
 |_=>none
def AL {ds:LD}{lo hi:OI}(h0:HT.dS ds.length 0 lo=0)(h1:HT.dS ds.length ds.length hi=ds.length):iR ds lo hi=ds:=by
 unfold iR;rw[h0,h1];simp
def eX {lo hi:Option Expr}{p2:Pos}{fa:FE}{fl fh:FO}(ha:JE X e fa)(hl:JO X lo fl)(hh:JO X hi fh):JE X (.Subscript e (.Slice lo hi none p2) pos) (tT fa fl fh):=by
 refine PE.to (EV (E9.or (E9.or IF Mf) (E9.or Jd Je)) ha hl hh) λσ H Q q=>?_;obtain⟨B,ρ,d,b,sB,r,e,q⟩:=q;obtain⟨x,ex,e⟩:=oX e;obtain⟨l,el,e⟩:=oX e;obtain⟨h,eh,e⟩:=oX e;refine⟨B,ρ,x.1,x.2,sB,r,ex,λv H1 N1 G i1 _=>⟨N1,ρ,l,G.nh,r.mono G.bn,el,λH2 h2=>⟨N1,ρ,h,G.nh.trans h2,r.mono G.bn,eh,λH3 h3=>?_⟩⟩⟩;have M:aZ N1 H3:=G.nh.trans (h2.trans h3);have T:=q.into (G.trans (.grow G.nh (h2.trans h3)));obtain⟨xd,xb⟩:=x;dsimp only at e i1;cases i1 with
 |@tup U vs ds hs hv=>
  cases e
  by_cases hw:HT.dS ds.length 0 l=0/\HT.dS ds.length ds.length h=ds.length
  ·rw[AL hw.1 hw.2]at T;exact .inr (.inr ⟨U,vs,rfl,b8 M hs,by rw[hv.length];exact hw.1,by rw[hv.length];exact hw.2,T.one M (.tup hs hv)⟩)
  ·refine .inl (.inr ⟨U,vs,rfl,b8 M hs,by rw[hv.length];exact hw,λp hp=>?_⟩);have O:=Ext.laid (o:=.tup (tV vs l h)) M hp;exact T _ _ _ O (.tup (js.of aB) ((xf hv).mono O.bn)) (by simp)
 |@lst U vs ds hs hv=>
  cases e
  refine .inl (.inl ⟨U,vs,rfl,M.seq hs,λp hp=>?_⟩);have O:=Ext.laid (o:=.lst (tV vs l h)) M hp;exact T _ _ _ O (.lst (gT.of aB) ((xf hv).mono O.bn)) λ_=>⟨p,_,_,rfl,rfl,hp,aB,(xf hv).mono O.bn⟩
 |str z=>
  dsimp only at e;split at e
  ·rename_i hz;cases e
   exact .inr (.inl ⟨z,rfl,hz,T.one M (.str _)⟩)
  ·cases e
 |_=>cases e
def const_int {K:Frag}{y:Str}{i:Int}{t:Tok}(e:nsIn K mainGlobals y=some (some (.int i t))):∃u v,nsIn K mainGlobals y=some (some u)/\be v u/\∀B,Is K B v (.int i):=⟨_,.int i,e,⟨t,rfl⟩,λ_=>.int i⟩
noncomputable def xn:Value->D->Bool
 |.none,.non=>true
 |.bool a,.bl b=>a == b
 |.int i _,.int j=>decide (i=j)
 |.str i _,.str j=>decide (i=j)
 |_,_=>false
def jK:LU->LD->Bool
 |[],[]=>true
 |u::us,d::ds=>xn u d && jK us ds
 |_,_=>false
theorem ly {K:Frag}{B:Hp}:∀ {u:Value}{d:D},xn u d=true->∃v,be v u/\Is K B v d
 |.none,.non,_=>⟨.non,rfl,.non⟩
 |.bool a,.bl b,h=>by
  have:a=b:=eq_of_beq h;subst this;exact⟨.bl a,rfl,.bl a⟩
 |.int i t,.int j,h=>by
  have:i=j:=PN h;subst this;exact⟨.int i,⟨t,rfl⟩,.int i⟩
 |.str i t,.str j,h=>by
  have:i=j:=PN h;subst this;exact⟨.str i,⟨t,rfl⟩,.str i⟩
theorem jL {K:Frag}:∀ {us:LU}{ds:LD},jK us ds=true->∃vs,L2.b7 vs us/\∀B,IsL K B vs ds
 |[],[],_=>⟨[],.nil,λ_=>.nil⟩
 |u::us,d::ds,h=>by
  rw[jK,vC]at h;obtain⟨vs,r,i⟩:=jL (K:=K) h.2;obtain⟨v,M,_⟩:=ly (K:=K) (B:=λ_=>none) h.1;refine⟨v::vs,.cons M r,λB=>?_⟩;obtain⟨T,G,U⟩:=ly (K:=K) (B:=B) h.1;have:T=v:=by have O:=M.abs;rw[G.abs]at O;exact vK O
  subst this;exact .cons U (i B)
def const_tup {K:Frag}{y:Str}{a:Addr}{od:Option Addr}{its:AV}{n:Nat}{lY:Array (Option Value)}{ds:LD}(e:nsIn K mainGlobals y=some (some (.ref a)))
  (l:K.lookup a=some ⟨.type "tuple",od,.seq its n,lY⟩) (h:(decide (its.size<=1000) && jK its.toList ds)=true):∃u v,nsIn K mainGlobals y=some (some u)/\be v u/\∀B,Is K B v (.tup ds):=by
 rw[vC]at h;obtain⟨vs,r,i⟩:=jL (K:=K) h.2;exact⟨_,.ref a,e,rfl,λB=>.tup (.inr ⟨_,its,n,l,rfl,rfl,le_of_lt (lt_of_le_of_lt (PN h.1) (by decide)),r⟩) (i B)⟩
end
section
variable {X:Cx}{a b o e:Expr}{pos:Pos}{x:Str}{p:Pos}{tg:Expr}
@[simp] noncomputable def M2:D->Option Str
 |.str z=>some z
 |_=>none
def jZ:LD->Option LS
 |[]=>some []
 |d::ds=>(M2 d).bind λz=>(jZ ds).map (z :: ·)
@[simp] def NQ:jZ []=some []:=rfl
@[simp] def AM (d:D)(ds:LD):jZ (d::ds)=(M2 d).bind λz=>(jZ ds).map (z :: ·):=rfl
@[simp] def NR (zs:LS):jZ (zs.map D.str)=some zs:=by
 induction zs with
 |nil=>rfl
 |cons z zs G=>simp[G]
theorem mQ {K:Frag}{B:Hp}:∀ {vs:LV}{ds:LD}{zs:LS}{its:LU},L2.b7 vs its->IsL K B vs ds->jZ ds=some zs->StrsAre its zs
 |_,_,_,_,.nil,.nil,e=>by cases e;exact .nil
 |_,_,_,_,.cons r M,.cons i O,e=>by
  rw[AM]at e;obtain⟨z,G,e⟩:=oX e;obtain⟨zs,e2,e⟩:=oY e;subst e;cases i<;>simp only[M2]at G<;>try (cases G;done)
  cases G
  obtain⟨t,rfl⟩:=r;exact .cons _ t (mQ M O e2)
noncomputable def hW:LN->LD->Env->Option Env
 |[],[],ρ=>some ρ
 |i::is,d::ds,ρ=>hW is ds (ρ.set i (some (d,false)))
 |_,_,_=>none
@[simp] def uB (ρ:Env):hW [] [] ρ=some ρ:=by rw[hW]
@[simp] def me (i:Nat)(is:LN)(d:D)(ds:LD)(ρ:Env):hW (i::is) (d::ds) ρ=hW is ds (ρ.set i (some (d,false))):=by rw[hW]
@[simp] def OZ (d:D)(ds:LD)(ρ:Env):hW [] (d::ds) ρ=none:=by simp only[hW]
@[simp] def Pa (i:Nat)(is:LN)(ρ:Env):hW (i::is) [] ρ=none:=by simp only[hW]
@[simp] def DG (is:LN):FG:=λd ρ=>match d with|.tup ds=>hW is ds ρ|_=>none
def qU:LN->LL
 |[]=>Ow
 |i::is=>KG (jv i) (qU is)
def FF:aZ (dW N (own σ ρ)) (dW N (own (σ.set i (some v)) (ρ.set i (some (d,false))))):=eV λa u e q=>⟨e,λz=>q (by
 rcases wQ z with⟨_,d',p⟩|⟨j,_,d',G,M⟩
 ·cases p
 ·exact⟨j,d',G,M⟩)⟩
theorem uC {K:Frag}:∀ {is:LN}{vs:LV}{ds:LD}{B0 H0 N H:Hp}{σ:St}{ρ ρ':Env}{Q:St->Hp->Prop},dU K B0 H0 N H σ ρ->IsL K (dW N (own σ ρ)) vs ds->hW is ds ρ=some ρ'->(∀G,dU K B0 H0 N H G ρ'->Q G H)->qU is vs σ H Q
 |[],_,_,_,_,_,_,_,_,_,_,s,.nil,e,k=>by
  rw[uB]at e;cases e;exact⟨rfl,k _ s⟩
 |[],_,_,_,_,_,_,_,_,_,_,_,.cons _ _,e,_=>by simp at e
 |_::_,_,_,_,_,_,_,_,_,_,_,_,.nil,e,_=>by simp at e
 |i::is,_,_,_,_,_,_,_,_,_,_,s,.cons h hs,e,k=>by
  rw[me]at e;exact⟨_,_,rfl,uC (s.bind h) (hs.mono FF) e k⟩
theorem o0:∀ {is:LN}{ds:LD}{ρ ρ':Env},hW is ds ρ=some ρ'->ds.length=is.length
 |[],[],_,_,_=>rfl
 |_::_,_::_,_,_,e=>by rw[me]at e;simp[o0 e]
 |[],_::_,_,_,e=>by simp at e
 |_::_,[],_,_,e=>by simp at e
def Ld {K:Frag}{is:LN}:IN K (DG is) (LM K is.length (qU is)):=by
 intro B0 H0 N H σ ρ ρ' v d Q s h e k;cases h with
 |@tup a vs ds O hl=>
  have M:hW is ds ρ=some ρ':=e;exact⟨a,vs,rfl,b8 (bW.trans s.ext.nh) O,by rw[hl.length];exact o0 M,uC s hl M λG s'=>k G H ⟨N,s'⟩⟩
 |_=>cases e
theorem uE {K:Frag}{n:Nat}{B H:Hp}{M:Env}{Q:St->Hp->Prop}(cl:∀i,i<n->M[i]? = some none):∀ {is:LN}{vs:LV}{ds:LD}{σ:St}{ρ O:Env},(∀i∈is,i<n)->fO K B σ ρ->IsL K B vs ds->hW is ds ρ=some O->ρ.length=σ.length->ρ.length=M.length ->
  (∀G,fO K B G O->(∀U,fO K U σ M->fO K U G M)->M.length=G.length->Q G H)->qU is vs σ H Q
 |[],_,_,_,_,_,_,rp,.nil,e,l1,l2,k=>by
  rw[uB]at e;cases e;exact⟨rfl,k _ rp (λ_ z=>z) (by omega)⟩
 |[],_,_,_,_,_,_,_,.cons _ _,e,_,_,_=>by simp at e
 |_::_,_,_,_,_,_,_,_,.nil,e,_,_,_=>by simp at e
 |i::is,_,_,σ,ρ,_,hn,rp,.cons (v:=v) h hs,e,l1,l2,k=>by
  rw[me]at e;have hi:=hn i mX;have T:i<σ.length:=by
   have:=(vV (cl i hi)).1;omega
  refine⟨_,_,rfl,uE cl (λj hj=>hn j (mZ _ hj)) ⟨rp.tb,λj d b q=>?_⟩ hs e (by simpa using l1) (by simpa using l2) λG r1 r2 l=>k G r1 (λU z=>r2 U ⟨z.tb,λj d b q=>?_⟩) l⟩
  ·rcases cm q with⟨rfl,pp⟩|⟨ne,pp⟩
   ·cases pp
    exact⟨v,by simp[T],h⟩
   ·obtain⟨w,h1,h2⟩:=rp.at' j d b pp;exact⟨w,by rw[vB ne];exact h1,h2⟩
  ·obtain⟨w,h1,h2⟩:=z.at' j d b q;have ne:i≠j:=λz=>by subst z;rw[cl i hi]at q;cases q
   exact⟨w,by rw[vB ne];exact h1,h2⟩
def Le {K:Frag}{n:Nat}{is:LN}(hn:∀i∈is,i<n):KU K n (DG is) (LM K is.length (qU is)):=by
 intro B H σ ρ G v d Q cl rep s h e hl k;cases h with
 |@tup a vs ds O hv=>
  have M:hW is ds ρ=some G:=e;exact⟨a,vs,rfl,b8 s O,by rw[hv.length];exact o0 M,uE cl hn rep hv M hl rfl k⟩
 |_=>cases e
end
section
variable {prog:Program}{w:World}{A:Around}{E:QV}{s:Shared}
def AN (st:s.heap.IsTupleIter it l i)(G:s.heap.IsTuple l items)(hv:items[i]? = some v)
  (k:∀h',h'.IsTupleIter it l (i+1)->Heap.SameBut it s.heap h'->Q v { s with heap:=h' }):wpAny (model prog w) A (Builtin.SmallTypes.nextOf (.ref it)) Q E s:=by
 obtain⟨T,g1,M,d1⟩:=id st;obtain⟨U,O,_,n2,d2⟩:=G;unfold Builtin.SmallTypes.nextOf;refine wX (wpAny_callSpecial?_slot (name:=Str.ofString "__next__") st.typeIs slot_tuple_iterator_next (wpAny_call_entry slot_tuple_iterator_next st.typeIs PySem.F.entry_tuple_iterator_next ?_ (PySem.F.args_tuple_iterator_next_1 _)));show wpAny _ _ (field (.ref it) 0>>=_) _ _ _;refine wX (wpAny_field g1 d1 (x:=.ref l) rfl ?_);show wpAny _ _ (if(Value.ref l == Value.none)=true then _ else _) _ _ _;rw[if_neg (λz=>uX z:¬((Value.ref l == Value.none)=true))];show wpAny _ _ (field (.ref it) 1>>=_) _ _ _;refine wX (wpAny_field g1 d1 (x:=.int i 0) rfl ?_);show wpAny _ _ (seqItems? (.ref l)>>=_) _ _ _;refine wX (wpAny_seqItems O d2 ?_);simp only[hv,toNat_natCast];refine wX (wpAny_setField g1 d1 (by simp) (wY ⟨v,rfl,wY (k _ ?_ (vW ..))⟩));exact⟨_,Heap.get?_update_self _ g1 (Obj.isFreed_of_fields (Obj.data_mapFields d1 _)),(Obj.cls_mapFields ..).trans M,by rw[Obj.data_mapFields d1];simp[rawInt]⟩
def DH (G:A.handled=none)(st:s.heap.IsTupleIter it l i)(M:s.heap.IsTuple l items)(hv:items[i]? = none)
  (k:∀h' x,Heap.ExtBut it s.heap h'->(∃o,h'.get? x=some o/\o.cls=.type "StopIteration")->E (.ref x) { s with heap:=h' }):wpAny (model prog w) A (Builtin.SmallTypes.nextOf (.ref it)) Q E s:=by
 obtain⟨T,g1,U,d1⟩:=id st;obtain⟨o2,O,_,n2,d2⟩:=M;unfold Builtin.SmallTypes.nextOf;refine wX (wpAny_callSpecial?_slot (name:=Str.ofString "__next__") st.typeIs slot_tuple_iterator_next (wpAny_call_entry slot_tuple_iterator_next st.typeIs PySem.F.entry_tuple_iterator_next ?_ (PySem.F.args_tuple_iterator_next_1 _)));show wpAny _ _ (field (.ref it) 0>>=_) _ _ _;refine wX (wpAny_field g1 d1 (x:=.ref l) rfl ?_);show wpAny _ _ (if(Value.ref l == Value.none)=true then _ else _) _ _ _;rw[if_neg (λz=>uX z:¬((Value.ref l == Value.none)=true))];show wpAny _ _ (field (.ref it) 1>>=_) _ _ _;refine wX (wpAny_field g1 d1 (x:=.int i 0) rfl ?_);show wpAny _ _ (seqItems? (.ref l)>>=_) _ _ _;refine wX (wpAny_seqItems O d2 ?_);simp only[hv,toNat_natCast];refine wX (wpAny_rule (wX (wpAny_setField g1 d1 (by simp) ?_)));show wpAny _ _ (newExc (.type "StopIteration") []>>=_) _ _ _;refine wX ?_;simp only[newTuple,newExc];refine wX (wpAny_newObj_type ?_ (by size_fits));refine wX (m:=firstArgMember _ _) (wpAny_of_eq (a:=Value.none) (by first|(simp only[firstArgMember];rfl)|rfl) ?_);refine wpAny_newObj_type ?_ (by size_fits);simp only[raiseNew];refine wX (wpAny_handled ?_);first|rw[G]|rw[show A.in1.handled=none from G]
 exact wX (wY (wpAny_throw (k _ _ (((vW ..).extBut.push _).push _) ⟨_,vY _ rfl,rfl⟩)))
end
def l5:Bool->Heap->Addr->Addr->Nat->Prop
 |true,h,it,a,i=>h.IsListIter it a i
 |false,h,it,a,i=>h.IsTupleIter it a i
def kG:Bool->Heap->Addr->AV->Prop
 |true,h,a,items=>h.IsList a items
 |false,h,a,items=>h.IsTuple a items
def mf (k:Bool)(K:Frag)(H:Hp)(a:Addr)(xs:LV):Prop:=match k with|true=>gT K H a xs|false=>js K H a xs
def l5.ob (st:l5 k h it a i):∃o,h.get? it=some o/\∀v,o.data≠.cell v:=by
 cases k<;>(obtain⟨o,g,_,d⟩:=st;exact⟨o,g,λv z=>by rw[d]at z;cases z⟩)
def l5.upon (st:l5 k h it a i)(g:∀o,h.get? it=some o->h'.get? it=some o):l5 k h' it a i:=by
 cases k<;>(obtain⟨o,e,r⟩:=st;exact⟨o,g o e,r⟩)
def kG.upon (st:kG k h a items)(g:∀o,h.get? a=some o->h'.get? a=some o):kG k h' a items:=by
 cases k<;>(obtain⟨o,e,r⟩:=st;exact⟨o,g o e,r⟩)
def kG.lt (st:kG k h a items):a<h.objs.size:=by
 cases k<;>(obtain⟨o,e,r⟩:=st;exact vX e)
def mf.same {k:Bool}{K:Frag}{H H':Hp}{a:Addr}{xs:LV}(h:mf k K H a xs)(e:aZ H H'):mf k K H' a xs:=by
 cases k
 ·exact b8 e h
 ·exact e.seq h
def mf.vals (I:Inv X ah σ H s)(h:mf k X.K H a xs):∃its:LU,b7 xs its/\kG k s.heap a its.toArray/\xs.length<=sizeLine:=by
 cases k
 ·exact I.tuple h
 ·obtain⟨its,r,p,z⟩:=I.list h;exact⟨its,r,p.isList,z⟩
def mf.inj (I:Inv X ah σ H s)(h:mf k X.K H a xs)(h':mf k X.K H a ys):xs=ys:=by
 cases k
 ·exact I.tuple_inj h h'
 ·exact I.list_inj h h'
section
variable {prog:Program}{w:World}{A:Around}{E:QV}{s:Shared}
def fZ (st:l5 k s.heap it l i)(G:kG k s.heap l items)(hv:items[i]? = some v)
  (q:∀h',l5 k h' it l (i+1)->Heap.SameBut it s.heap h'->Q v { s with heap:=h' }):wpAny (model prog w) A (Builtin.SmallTypes.nextOf (.ref it)) Q E s:=by
 cases k
 ·exact AN st G hv q
 ·exact wpAny_nextOf_list_item st G hv q
def jz (G:A.handled=none)(st:l5 k s.heap it l i)(M:kG k s.heap l items)(hv:items[i]? = none)
  (q:∀h' x,Heap.ExtBut it s.heap h'->(∃o,h'.get? x=some o/\o.cls=.type "StopIteration")->E (.ref x) { s with heap:=h' }):wpAny (model prog w) A (Builtin.SmallTypes.nextOf (.ref it)) Q E s:=by
 cases k
 ·exact DH G st M hv q
 ·exact wpAny_nextOf_list_end G st M hv q
end
noncomputable def Ia (k:Bool)(l:Addr):Obj:={ cls:=.type (if k=true then "list_iterator" else "tuple_iterator"),data:=.fields #[.ref l,.int 0 0] }
def mR (G:kG k s.heap l items)
  (q:Q (.ref s.heap.objs.size) { s with heap:=s.heap.push (Ia k l) }):wpAny (model prog w) A (pyIter (.ref l)) Q E s:=by
 cases k
 ·exact wpAny_pyIter_tuple G q
 ·exact wpAny_pyIter_list G q
def kG.push (st:kG k h a items)(o:Obj):kG k (h.push o) a items:=st.upon λ_ e=>vZ _ e
section
variable (k1 k2:Bool) (h:Heap) (l1 l2:Addr)
abbrev zA:Heap:=h.push (Ia k1 l1)
abbrev zB:Heap:=(zA k1 h l1).push (Ia k2 l2)
abbrev zC:Heap:=(zB k1 k2 h l1 l2).push { cls:=.type "tuple",data:=.seq #[.ref h.objs.size,.ref (zA k1 h l1).objs.size] }
abbrev zD:Heap:=(zC k1 k2 h l1 l2).push { cls:=.type "tuple",data:=.seq #[.none,.none] }
abbrev zE:Heap:=(zD k1 k2 h l1 l2).push { cls:=.type "zip",data:=.fields #[.none,.bool false,.bool false,.ref (zB k1 k2 h l1 l2).objs.size,.ref (zC k1 k2 h l1 l2).objs.size] }
end
def AQ (k1 k2:Bool)(l1 l2:Addr)(xs ys:AV):Meets (Builtin.«zip.__new__» ⟨[.type "zip",.ref l1,.ref l2],[]⟩) (λ_ R s=>kG k1 s.heap l1 xs/\kG k2 s.heap l2 ys /\
   R (.ok (.ret (.ref (zD k1 k2 s.heap l1 l2).objs.size))) { s with heap:=zE k1 k2 s.heap l1 l2 }) :=
 .of_wp λprog w A R s hs=>by
  obtain⟨hp,g,d,tk,os⟩:=s;obtain⟨M,O,hs⟩:=hs;have G:=sub_zip;have T:kG k1 (Shared.heap ⟨hp,g,d,tk,os⟩) l1 xs:=M;have p2:kG k2 (Shared.heap ⟨hp.push (Ia k1 l1),g,d,tk,os⟩) l2 ys:=kG.push O _;wp_walk using mR T,mR p2;exact⟨_,rfl,hs⟩
section
variable {prog:Program}{w:World}{A:Around}{E:QV}{s:Shared}
def BZ (q1:kG k1 s.heap l1 xs)(q2:kG k2 s.heap l2 ys)
  (q:∀h',IsZip h' (s.heap.objs.size+4) (s.heap.objs.size+2) (s.heap.objs.size+3) .none->IsPair h' (s.heap.objs.size+2) (.ref s.heap.objs.size) (.ref (s.heap.objs.size+1))->IsPair h' (s.heap.objs.size+3) .none .none ->
   l5 k1 h' s.heap.objs.size l1 0->l5 k2 h' (s.heap.objs.size+1) l2 0->(∀c o,s.heap.get? c=some o->h'.get? c=some o)->Q (.ref (s.heap.objs.size+4)) { s with heap:=h' }):
  wpAny (model prog w) A (call (.type "zip") [.ref l1,.ref l2]) Q E s:=by
 refine callType_new PySem.F.called_zip (by decide) (PySem.F.typeCall_zip_2 _ _) (PySem.F.newCall_zip_2 _ _) (λobj=>PySem.F.args_object_init_3 obj _ _) PySem.F.entry_zip_new (AQ k1 k2 l1 l2 xs ys) ⟨q1,q2,?_⟩;have n1:(zA k1 s.heap l1).objs.size=s.heap.objs.size+1:=Heap.size_push ..;have n2:(zB k1 k2 s.heap l1 l2).objs.size=s.heap.objs.size+2:=by rw[Heap.size_push,n1]
 have n3:(zC k1 k2 s.heap l1 l2).objs.size=s.heap.objs.size+3:=by rw[Heap.size_push,n2]
 have n4:(zD k1 k2 s.heap l1 l2).objs.size=s.heap.objs.size+4:=by rw[Heap.size_push,n3]
 have M:∀ {c o},(zD k1 k2 s.heap l1 l2).get? c=some o->(zE k1 k2 s.heap l1 l2).get? c=some o:=λe=>vZ _ e;have O:∀ {c o},(zC k1 k2 s.heap l1 l2).get? c=some o->(zE k1 k2 s.heap l1 l2).get? c=some o:=λe=>M (vZ _ e);have T:∀ {c o},(zB k1 k2 s.heap l1 l2).get? c=some o->(zE k1 k2 s.heap l1 l2).get? c=some o:=λe=>O (vZ _ e);have U:∀ {c o},(zA k1 s.heap l1).get? c=some o->(zE k1 k2 s.heap l1 l2).get? c=some o:=λe=>T (vZ _ e);have u1:∀ {c o},s.heap.get? c=some o->(zE k1 k2 s.heap l1 l2).get? c=some o:=λe=>U (vZ _ e);have G:(zE k1 k2 s.heap l1 l2).get? (zD k1 k2 s.heap l1 l2).objs.size=some _:=vY _ rfl;have g4:(zE k1 k2 s.heap l1 l2).get? (zC k1 k2 s.heap l1 l2).objs.size=some _:=M (vY _ rfl);have g3:(zE k1 k2 s.heap l1 l2).get? (zB k1 k2 s.heap l1 l2).objs.size=some _:=O (vY _ rfl);have g2:(zE k1 k2 s.heap l1 l2).get? (zA k1 s.heap l1).objs.size=some _:=T (vY _ (by cases k2<;>rfl))
 have g1:(zE k1 k2 s.heap l1 l2).get? s.heap.objs.size=some _:=U (vY _ (by cases k1<;>rfl))
 rw[n2,n3,n4]at G;rw[n1,n2]at g3;rw[n3]at g4;rw[n1]at g2;show _/\_;rw[n4];refine⟨⟨_,G,rfl⟩,q _ G g3 g4 ?_ ?_ λc o e=>u1 e⟩
 ·cases k1<;>exact⟨_,g1,rfl,rfl⟩
 ·cases k2<;>exact⟨_,g2,rfl,rfl⟩
structure ZApart (z TI TO i1 i2:Addr):Prop where
 tz:TI≠z
 oz:TO≠z
 az:i1≠z
 bz:i2≠z
 oa:TO≠i1
 ob:TO≠i2
 to:TI≠TO
 ta:TI≠i1
 tb:TI≠i2
 ab:i1≠i2
def yF {k1 k2:Bool}{z TI TO i1 i2 l1 l2:Addr}{j:Nat}{xs ys:AV}{x y a b:Value}{Q:QV}(D:ZApart z TI TO i1 i2)(m1:l1≠z/\l1≠TO/\l1≠i1)(m2:l2≠z/\l2≠TO/\l2≠i1/\l2≠i2)
  (hz:IsZip s.heap z TI TO .none) (hI:IsPair s.heap TI (.ref i1) (.ref i2)) (hO:IsPair s.heap TO a b) (t1:l5 k1 s.heap i1 l1 j) (t2:l5 k2 s.heap i2 l2 j) (q1:kG k1 s.heap l1 xs) (q2:kG k2 s.heap l2 ys) (hx:xs[j]? = some x) (hy:ys[j]? = some y)
  (q:∀h',IsZip h' z TI TO (rawInt s.heap.objs.size)->IsPair h' TO x y->l5 k1 h' i1 l1 (j+1)->l5 k2 h' i2 l2 (j+1)->IsPair h' s.heap.objs.size x y->h'.objs.size=s.heap.objs.size+1 ->
   (∀c o,c≠z->c≠TO->c≠i1->c≠i2->s.heap.get? c=some o->h'.get? c=some o)->Q (.ref s.heap.objs.size) { s with heap:=h' }):
  wpAny (model prog w) A (Builtin.«zip.__next__» ⟨[.ref z],[]⟩) (λju s'=>∃v,ju=.done (.ret v)/\Q v s') E s:=by
 show wpAny _ _ (field (.ref z) 2>>=_) _ _ s;refine wX (wpAny_field hz rfl (x:=.bool false) rfl ?_);show wpAny _ _ (field (.ref z) 3>>=_) _ _ s;refine wX (wpAny_field hz rfl (x:=.ref TI) rfl (wX (wpAny_seqItems hI rfl ?_)));show wpAny _ _ (Builtin.SmallTypes.ownedTupleIsFree (.ref z)>>=_) _ _ s;refine wX ?_;unfold Builtin.SmallTypes.ownedTupleIsFree;refine wX (wpAny_field hz rfl (x:=.none) rfl (wY ?_));simp only[if_true];refine wX (wpAny_rule (wX (wpAny_field hz rfl (x:=.ref TO) rfl (wX (wpAny_setField_rec hz (by simp) λg1 hz1 s1=>?_)))));replace hz1:IsZip g1 z TI TO .ellipsis:=hz1;refine wX ?_;simp only[forIn_cons,forIn_nil,List.zipIdx_cons,List.zipIdx_nil];refine wX (wX (wpAny_onRaise ?_));show wpAny _ _ (Builtin.SmallTypes.nextOf (.ref i1)>>=_) _ _ { s with heap:=g1 };refine wX (fZ (s:={ s with heap:=g1 }) (t1.upon λo e=>s1.extBut _ _ D.az e) (q1.upon λo e=>s1.extBut _ _ m1.1 e) hx λg2 t12 s2=>wY ?_);have Qg:IsPair g2 TO a b:=s2.extBut _ _ D.oa (s1.extBut _ _ D.oz hO);refine wX (wpAny_seqItems Qg rfl (wX (wpAny_updateSeq_pair Qg λg3 hO3 s3=>?_)));replace hO3:IsPair g3 TO x b:=hO3;refine wX (wpAny_letGo (wY (wX (wX (wpAny_onRaise ?_)))));show wpAny _ _ (Builtin.SmallTypes.nextOf (.ref i2)>>=_) _ _ { s with heap:=g3 };have Sv:∀ {c o},c≠z->c≠TO->c≠i1->s.heap.get? c=some o->g3.get? c=some o:=λM c2 c3 e=>s3.extBut _ _ c2 (s2.extBut _ _ c3 (s1.extBut _ _ M e));refine wX (fZ (s:={ s with heap:=g3 }) (t2.upon λo e=>Sv D.bz D.ob.symm D.ab.symm e) (q2.upon λo e=>Sv m2.1 m2.2.1 m2.2.2.1 e) hy λg4 t24 s4=>wY ?_);have Uo:IsPair g4 TO x b:=s4.extBut _ _ D.ob hO3;refine wX (wpAny_seqItems Uo rfl (wX (wpAny_updateSeq_pair Uo λG O s5=>?_)));replace O:IsPair G TO x y:=O;refine wX (wpAny_letGo (wY (wY (wX (wpAny_seqItems O rfl (wX (wpAny_newTuple ?_)))))));have sz:G.objs.size=s.heap.objs.size:=by rw[s5.1,s4.1,s3.1,s2.1,s1.1]
 have Wz:∀c o,c≠z->c≠TO->c≠i1->c≠i2->s.heap.get? c=some o->G.get? c=some o:=λc o M c2 c3 c4 e=>s5.extBut _ _ c2 (s4.extBut _ _ c4 (Sv M c2 c3 e));have Uq:IsZip G z TI TO .ellipsis:=s5.extBut _ _ D.oz.symm (s4.extBut _ _ D.bz.symm (s3.extBut _ _ D.oz.symm (s2.extBut _ _ D.az.symm hz1)));have W1:l5 k1 G i1 l1 (j+1):=t12.upon λo e=>s5.extBut _ _ D.oa.symm (s4.extBut _ _ D.ab (s3.extBut _ _ D.oa.symm e));have W2:l5 k2 G i2 l2 (j+1):=t24.upon λo e=>s5.extBut _ _ D.ob.symm e;have Ur:z<G.objs.size:=vX Uq;show wpAny _ _ (Builtin.SmallTypes.ownedTupleHandOut (.ref z) (.ref G.objs.size)>>=_) _ _ { s with heap:=G.push { cls:=.type "tuple",data:=.seq #[x,y] } };refine wX ?_;unfold Builtin.SmallTypes.ownedTupleHandOut;have W3:IsZip (G.push { cls:=.type "tuple",data:=.seq #[x,y] }) z TI TO .ellipsis:=vZ _ Uq;refine wX (wpAny_setField_rec W3 (by simp) λg7 hz7 s7=>?_);replace hz7:IsZip g7 z TI TO (rawInt G.objs.size):=hz7;refine wpAny_setField_rec hz7 (by simp) λg8 T s8=>?_;replace T:IsZip g8 z TI TO (rawInt G.objs.size):=T;have U:∀c o,c≠z->G.get? c=some o->g8.get? c=some o:=λc o M e=>s8.extBut _ _ M (s7.extBut _ _ M (vZ _ e));have Us:IsPair g8 G.objs.size x y:=s8.extBut _ _ (ne_of_gt Ur) (s7.extBut _ _ (ne_of_gt Ur) (vY _ rfl));have Ut:g8.objs.size=G.objs.size+1:=by rw[s8.1,s7.1,Heap.size_push]
 rw[sz]at T Us Ut;refine wY ⟨_,rfl,?_⟩;show Q (.ref G.objs.size) _;rw[sz];exact q g8 T (U _ _ D.oz O) (W1.upon λo e=>U _ o D.az e) (W2.upon λo e=>U _ o D.bz e) Us Ut λc o M c2 c3 c4 e=>U c o M (Wz c o M c2 c3 c4 e)
end
section
variable {prog:Program}{w:World}{A:Around}{E:QV}{s:Shared}
def Ca {k1 k2:Bool}{z TI TO i1 i2 l1 l2:Addr}{j:Nat}{xs ys:AV}{a b:Value}{Q:PySem.Fin->Shared->Prop}(hA:A.handled=none)(D:ZApart z TI TO i1 i2)(m1:l1≠z/\l1≠TO/\l1≠i1)(m2:l2≠z/\l2≠TO/\l2≠i1/\l2≠i2)
  (hz:IsZip s.heap z TI TO .none) (hI:IsPair s.heap TI (.ref i1) (.ref i2)) (hO:IsPair s.heap TO a b) (t1:l5 k1 s.heap i1 l1 j) (t2:l5 k2 s.heap i2 l2 j) (q1:kG k1 s.heap l1 xs) (q2:kG k2 s.heap l2 ys) (he:xs[j]? = none∨ys[j]? = none)
  (q:∀h' x,(∀c o,c≠z->c≠TO->c≠i1->c≠i2->s.heap.get? c=some o->h'.get? c=some o)->(∃o,h'.get? x=some o/\o.cls=.type "StopIteration")->E (.ref x) { s with heap:=h' }):
  wpAny (model prog w) A (Builtin.«zip.__next__» ⟨[.ref z],[]⟩) Q E s:=by
 show wpAny _ _ (field (.ref z) 2>>=_) _ _ s;refine wX (wpAny_field hz rfl (x:=.bool false) rfl ?_);show wpAny _ _ (field (.ref z) 3>>=_) _ _ s;refine wX (wpAny_field hz rfl (x:=.ref TI) rfl (wX (wpAny_seqItems hI rfl ?_)));show wpAny _ _ (Builtin.SmallTypes.ownedTupleIsFree (.ref z)>>=_) _ _ s;refine wX ?_;unfold Builtin.SmallTypes.ownedTupleIsFree;refine wX (wpAny_field hz rfl (x:=.none) rfl (wY ?_));simp only[if_true];refine wX (wpAny_rule (wX (wpAny_field hz rfl (x:=.ref TO) rfl (wX (wpAny_setField_rec hz (by simp) λg1 G s1=>?_)))));replace G:IsZip g1 z TI TO .ellipsis:=G;refine wX ?_;simp only[forIn_cons,forIn_nil,List.zipIdx_cons,List.zipIdx_nil];refine wX (wX (wpAny_onRaise ?_));show wpAny _ _ (Builtin.SmallTypes.nextOf (.ref i1)>>=_) _ _ { s with heap:=g1 };cases hx:xs[j]? with
 |none=>
  refine wX (jz (s:={ s with heap:=g1 }) hA (t1.upon λo e=>s1.extBut _ _ D.az e) (q1.upon λo e=>s1.extBut _ _ m1.1 e) hx λg2 x s2 hX=>?_);obtain⟨oU,M,U⟩:=hX;have QO:IsZip g2 z TI TO .ellipsis:=s2 _ _ D.az.symm G;have nz:x≠z:=λz'=>by subst z';rw[QO]at M;cases M;simp at U
  exact wpAny_setField_rec QO (by simp) λg3 _ s3=>q g3 x (λc o O _ c3 _ e=>s3.extBut _ _ O (s2 _ _ c3 (s1.extBut _ _ O e))) ⟨oU,s3.extBut _ _ nz M,U⟩
 |some v=>
  have hy:ys[j]? = none:=by
   rcases he with h|h
   ·rw[hx]at h;cases h
   ·exact h
  refine wX (fZ (s:={ s with heap:=g1 }) (t1.upon λo e=>s1.extBut _ _ D.az e) (q1.upon λo e=>s1.extBut _ _ m1.1 e) hx λg2 t12 s2=>wY ?_);have Qg:IsPair g2 TO a b:=s2.extBut _ _ D.oa (s1.extBut _ _ D.oz hO);refine wX (wpAny_seqItems Qg rfl (wX (wpAny_updateSeq_pair Qg λg3 hO3 s3=>?_)));refine wX (wpAny_letGo (wY (wX (wX (wpAny_onRaise ?_)))));show wpAny _ _ (Builtin.SmallTypes.nextOf (.ref i2)>>=_) _ _ { s with heap:=g3 };have T:∀ {c o},c≠z->c≠TO->c≠i1->s.heap.get? c=some o->g3.get? c=some o:=λO c2 c3 e=>s3.extBut _ _ c2 (s2.extBut _ _ c3 (s1.extBut _ _ O e));refine wX (jz (s:={ s with heap:=g3 }) hA (t2.upon λo e=>T D.bz D.ob.symm D.ab.symm e) (q2.upon λo e=>T m2.1 m2.2.1 m2.2.2.1 e) hy λg4 x s4 hX=>?_);obtain⟨oU,M,U⟩:=hX;have Uu:IsZip g4 z TI TO .ellipsis:=s4 _ _ D.bz.symm (s3.extBut _ _ D.oz.symm (s2.extBut _ _ D.az.symm G));have nz:x≠z:=λz'=>by subst z';rw[Uu]at M;cases M;simp at U
  exact wpAny_setField_rec Uu (by simp) λg5 _ s5=>q g5 x (λc o O c2 c3 c4 e=>s5.extBut _ _ O (s4 _ _ c4 (T O c2 c3 e))) ⟨oU,s5.extBut _ _ nz M,U⟩
end
def jM {X:Cx}{ah:AO}{σ:St}{H:Hp}{s:Shared}{h':Heap}{t':Nat}{ch:List Addr}(I:Inv X ah σ H s)(f:∀b∈ch,ma X ah H b)(k:∀b o,b∉ch->s.heap.get? b=some o->h'.get? b=some o):Inv X ah σ H { s with heap:=h',toks:=t' }:=by
 have G:∀b u,H b=some u->b∉ch:=λb u e z=>by rw[(f b z).1]at e;cases e
 refine I.step (g':=s.gens) (d':=s.drawn) (ch:=ch) (λb hb=>?_) (λb o _ _ hc e _=>k b o hc e) (λb o _ _ hc e _=>⟨o.slots,k b o hc e⟩) (λ_ _ _ _ n=>n)
  (λb o hc e=>⟨o,k b o hc e⟩) (λ_ _ e=>e) (λ_ _ _ e=>e) (λ_ _ e=>e) (λm hm=>?_) (λb u e=>?_) I.bare
 ·obtain⟨_,f1,_,f3,f4,f5⟩:=f b hb;exact⟨f3,f1,f4,f5⟩
 ·obtain⟨o,es,M,O,r⟩:=hm;exact⟨o,es,M,k _ o (λz=>(f _ z).2.1 rfl) O,r⟩
 ·refine(I.hok b u e).stay (λc v hc q=>k c v ?_ q) (λ_ q=>q) (λ_ _ q=>q) λ_ _ _ q=>q;rcases hc with z|z
  ·rw[z];exact G b u e
  ·exact G c _ z
def Cb {X:Cx}{ah:AO}{σ:St}{H:Hp}{s:Shared}{h':Heap}{t':Nat}{ch:List Addr}{a:Addr}{ob:HO}(I:Inv X ah σ H s)(f:∀b∈ch,ma X ah H b)(k:∀b o,b∉ch->s.heap.get? b=some o->h'.get? b=some o)(ha:s.heap.objs.size<=a)
  (new:bR X.prog X.w (upd H a ob) h' a ob):Inv X ah σ (upd H a ob) { s with heap:=h',toks:=t' }:=by
 have hn:H a=none:=I.hok.fresh ha;have G:∀b u,H b=some u->b∉ch:=λb u e z=>by rw[(f b z).1]at e;cases e
 have M:∀b o,s.heap.get? b=some o->b≠a:=λb o e=>vS (vQ (vX e) ha);refine I.step (g':=s.gens) (d':=s.drawn) (ch:=ch) (λb hb=>?_) (λb o _ _ hc e _=>k b o hc e) (λb o _ _ hc e _=>⟨o.slots,k b o hc e⟩) (λb o _ e n=>by rw[aG (M b o e)];exact n)
  (λb o hc e=>⟨o,k b o hc e⟩) (λb xs e=>by rw[aG (bf e hn)];exact e) (λb o u e=>by rw[aG (bf e hn)];exact e) (λb ps e=>by rw[aG (bf e hn)];exact e) (λm hm=>?_) (λb u e=>?_) I.bare
 ·obtain⟨_,f1,_,f3,f4,f5⟩:=f b hb;exact⟨f3,f1,f4,f5⟩
 ·obtain⟨o,es,O,T,r⟩:=hm;exact⟨o,es,O,k _ o (λz=>(f _ z).2.1 rfl) T,r⟩
 ·by_cases hb:b=a
  ·subst hb;rw[aB]at e;cases e;exact new
  ·rw[aG hb]at e;refine(I.hok b u e).stay (λc v hc q=>k c v ?_ q) (λc q=>?_) (λc xs q=>?_) λc o xs q=>?_
   ·rcases hc with z|z
    ·rw[z];exact G b u e
    ·exact G c _ z
   ·rw[aG (bf q hn)];exact q
   ·rw[aG (bf q hn)];exact q
   ·rw[aG (bf q hn)];exact q
noncomputable def R5 (K:Frag)(k1 k2:Bool)(G M:Addr):It :=
  ⟨λi H=>∃xs ys x y,mf k1 K H G xs/\mf k2 K H M ys/\xs[i]? = some x/\ys[i]? = some y,
   λi H v H'=>∃T x y,v=.ref T/\H T=none/\H'=upd H T (.tup [x,y])/\(∀xs,mf k1 K H G xs->xs[i]? = some x)/\(∀ys,mf k2 K H M ys->ys[i]? = some y),
   λi H=>∃xs ys,mf k1 K H G xs/\mf k2 K H M ys/\(xs.length<=i∨ys.length<=i)⟩
def FH {P:Program}{w:World}{K:Frag}{es:QD}{kt:Nat}{pt:Pos}{k1 k2:Bool}{a1 a2 z TI TO i1 i2:Addr}(D:ZApart z TI TO i1 i2)(m1:a1≠z/\a1≠TO/\a1≠i1)(m2:a2≠z/\a2≠TO/\a2≠i1/\a2≠i2):
  Turn P w K (.Tuple es kt pt) (R5 K k1 k2 a1 a2) [z,TI,TO,i1,i2] z (λi h=>IsZip h z TI TO .none/\IsPair h TI (.ref i1) (.ref i2)/\(∃a b,IsPair h TO a b)/\l5 k1 h i1 a1 i/\l5 k2 h i2 a2 i) where
 mem:=by simp
 obj:=λi h st b hb=>by
  obtain⟨hz,M,⟨a,c,O⟩,U,t2⟩:=st;simp at hb;rcases hb with rfl|rfl|rfl|rfl|rfl
  ·exact⟨_,hz,λv z=>by cases z⟩
  ·exact⟨_,M,λv z=>by cases z⟩
  ·exact⟨_,O,λv z=>by cases z⟩
  ·exact U.ob
  ·exact t2.ob
 keep:=λi h h' st k=>by
  obtain⟨hz,M,⟨a,c,O⟩,U,t2⟩:=st;exact⟨k z (by simp) _ hz,k TI (by simp) _ M,⟨a,c,k TO (by simp) _ O⟩,U.upon λo e=>k i1 (by simp) o e,t2.upon λo e=>k i2 (by simp) o e⟩
 item:=by
  intro X hP hw hK hc i ah s σ H E I hf st hg;subst hP hw hK;obtain⟨hz,M,⟨a,c,O⟩,U,t2⟩:=st;obtain⟨xs,ys,x,y,q1,q2,hx,hy⟩:=hg;obtain⟨its,r1,p1,z1⟩:=q1.vals I;obtain⟨BA,r2,p2,z2⟩:=q2.vals I;obtain⟨u,hu,ru⟩:=r1.get hx;obtain⟨v,hv,rv⟩:=r2.get hy;have hT:s.TypeIs (.ref z) "zip":=⟨_,hz,rfl⟩;have fresh:H s.heap.objs.size=none:=I.hok.fresh (vT _);have lt:∀ {c o},s.heap.get? c=some o->c≠s.heap.objs.size:=λe=>vS (vX e);have l1:i1≠s.heap.objs.size:=by obtain⟨o,e,_⟩:=U.ob;exact lt e
  have l2:i2≠s.heap.objs.size:=by obtain⟨o,e,_⟩:=t2.ob;exact lt e
  unfold pyNext;refine wX (wpAny_attempt (wpAny_callSpecial?_slot (name:=Str.ofString "__next__") hT slot_zip_next (wpAny_call_entry slot_zip_next hT entry_zip_next (yF D m1 m2 hz M O U t2 p1 p2 (by simpa using hu) (by simpa using hv) λh' b1 b2 b3 b4 b5 b6 bk=>wY ?_) (args_zip_next_1 _))));refine⟨_,rfl,wpAny_letOwnedTupleGo_zip (s:={ s with heap:=h' }) b1 λh2 c1 s2=>?_⟩;have G:Heap.SameBut z h' h2:=s2;have kk:∀b o,b∉[z,TI,TO,i1,i2]->s.heap.get? b=some o->h2.get? b=some o:=λb o hb e=>
   G.extBut _ _ (λq=>hb (by simp[q])) (bk b o (λq=>hb (by simp[q])) (λq=>hb (by simp[q])) (λq=>hb (by simp[q])) (λq=>hb (by simp[q])) e)
  have I1:Inv X ah σ H { s with heap:=h2 }:=jM (t':=s.toks) I hf kk;have zT:s.heap.objs.size≠z:=(lt hz).symm;have new:bR X.prog X.w (upd H s.heap.objs.size (.tup [x,y])) h2 s.heap.objs.size (.tup [x,y]):=⟨by show 2<=sizeLine;decide,[u,v],.cons ru (.cons rv .nil),⟨_,G.extBut _ _ zT b5,rfl,_,rfl⟩⟩;refine⟨.ref s.heap.objs.size,upd H s.heap.objs.size (.tup [x,y]),?_,rfl,⟨_,x,y,rfl,fresh,rfl,λzs hq=>by rw[mf.inj I hq q1];exact hx,λzs hq=>by rw[mf.inj I hq q2];exact hy⟩,?_,λb hb=>?_⟩
  ·exact Cb (s:=s) (t':=s.toks) I hf kk (vT _) new
  ·exact⟨c1,G.extBut _ _ D.tz (bk _ _ D.tz D.to D.ta D.tb M),⟨_,_,G.extBut _ _ D.oz b2⟩,b3.upon λo e=>G.extBut _ _ D.az e,b4.upon λo e=>G.extBut _ _ D.bz e⟩
  ·have Dp:b≠s.heap.objs.size:=by
    simp at hb;rcases hb with rfl|rfl|rfl|rfl|rfl
    ·exact lt hz
    ·exact lt M
    ·exact lt O
    ·exact l1
    ·exact l2
   rw[aG Dp];exact(hf b hb).1
 done:=by
  intro X hP hw hK hc i ah s σ H E I hf st hg;subst hP hw hK;obtain⟨hz,M,⟨a,c,O⟩,U,t2⟩:=st;obtain⟨xs,ys,q1,q2,hl⟩:=hg;obtain⟨its,r1,p1,z1⟩:=q1.vals I;obtain⟨BA,r2,p2,z2⟩:=q2.vals I;have hT:s.TypeIs (.ref z) "zip":=⟨_,hz,rfl⟩;have n1:=r1.length;have n2:=r2.length;unfold pyNext;refine wX (wpAny_attempt (wpAny_callSpecial?_slot (name:=Str.ofString "__next__") hT slot_zip_next (wpAny_call_entry slot_zip_next hT entry_zip_next (Ca (I.ok.hd hc) D m1 m2 hz M O U t2 p1 p2 (hl.imp (λq=>by simp;omega) λq=>by simp;omega) λh' x hk hX=>?_) (args_zip_next_1 _))));obtain⟨o,eo,co⟩:=hX;refine wX (wpAny_isInstance (T:="StopIteration") (b:=true) ⟨o,eo,co⟩ isSubtype_stop (wY ⟨rfl,?_⟩));exact jM (t':=s.toks) I hf λb o hb e=>hk b o (λq=>hb (by simp[q])) (λq=>hb (by simp[q])) (λq=>hb (by simp[q])) (λq=>hb (by simp[q])) e
 self:=λ_ _ _ _ _ st h=>wpAny_pyIter_zip st.1 h
section
variable {X:Cx}{a b e:Expr}{pos:Pos}{p:Pos}
def Lf:bootBuiltins "zip" = some (.type "zip"):=by decide +kernel
def Pc (K:Frag)(ta:TA):TI:=λσ H R=>ta σ H λvs G=>∃(k1 k2:Bool)(l1 l2:Addr)(xs ys:LV),vs=[.ref l1,.ref l2]/\mf k1 K G l1 xs/\mf k2 K G l2 ys/\R (R5 K k1 k2 l1 l2) G
def M3 {es:QD}{kt:Nat}{pt:Pos}{ta:TA}(hg:Gl X "zip")(hm:X.mg "zip" = none)(ha:PA X [a,b] ta)(hs:starEach [a,b] X.env=[(false,eval a X.env),(false,eval b X.env)]:=by rfl)(O:starEach [b] X.env=[(false,eval b X.env)]:=by rfl):
  PI X (.Tuple es kt pt) (.Call (.Name "zip" p) [a,b] [] pos) (Pc X.K ta):=by
 intro ah s σ H R I h;refine Call_ (i6 I hg hm Lf (PyProof.Rows.callWith_type1 (c7 (ha pos ah s σ H _ I h) λus s1 ⟨vs,H1,T,r1,q1⟩=>?_) (by rw[hs,O]) (by rw[O];rfl)));obtain⟨k1,k2,l1,l2,xs,ys,rfl,h1,h2,q⟩:=q1;obtain⟨u1,u2,rfl,Nz,Sw⟩:=r1.two;cases Nz
 cases Sw
 obtain⟨its,v1,p1,z1⟩:=h1.vals T;obtain⟨BA,v2,p2,z2⟩:=h2.vals T;have ED:=p1.lt;have G:=p2.lt;refine BZ p1 p2 λh' c1 c2 c3 c4 c5 ck=>?_;have D:ZApart (s1.heap.objs.size+4) (s1.heap.objs.size+2) (s1.heap.objs.size+3) s1.heap.objs.size (s1.heap.objs.size+1):=by
  constructor<;>(intro z;exact absurd z (by first|exact vS (Nat.add_lt_add_left (by decide) _)|exact ne_of_gt (Nat.add_lt_add_left (by decide) _)|exact vS (Nat.lt_add_of_pos_right (by decide))|exact ne_of_gt (Nat.lt_add_of_pos_right (by decide))))
 have M:∀ {l:Addr}(n:Nat),l<s1.heap.objs.size->l≠s1.heap.objs.size+n:=λn hl=>vS (vQ hl (le_add_right _ n));refine wpAny_pyIter_zip c1 ⟨s1.heap.objs.size+4,[s1.heap.objs.size+4,s1.heap.objs.size+2,s1.heap.objs.size+3,s1.heap.objs.size,s1.heap.objs.size+1],_,_,H1,rfl,T.kept (t':=s1.toks) ck,
  FH D ⟨M 4 ED,M 3 ED,M 0 ED⟩ ⟨M 4 G,M 3 G,M 0 G,M 1 G⟩,⟨c1,c2,⟨_,_,c3⟩,c4,c5⟩,λb hb=>?_,q⟩
 have U:s1.heap.objs.size<=b:=by
  simp at hb;rcases hb with rfl|rfl|rfl|rfl|rfl
  ·exact le_add_right _ 4
  ·exact le_add_right _ 2
  ·exact le_add_right _ 3
  ·exact vT _
  ·exact le_add_right _ 1
 exact T.fpOk U (T.hok.fresh U)
noncomputable def jh (xs ys:LD):LD:=List.zipWith (λx y=>.tup [x,y]) xs ys
@[simp] def FI (fa G:FE):FA:=λρ=>(fa ρ).bind λx=>(G ρ).bind λy=>(gM x.1).bind λxs=>(gM y.1).map λys=>jh xs ys
def yG {K:Frag}{B:Hp}{v:V}{d:D}{ds:LD}(h:Is K B v d)(e:gM d=some ds):∃k a vs,v=.ref a/\mf k K B a vs/\IsL K B vs ds:=by
 cases h with
 |tup G hl=>cases e;exact⟨false,_,_,rfl,G,hl⟩
 |lst G hl=>cases e;exact⟨true,_,_,rfl,G,hl⟩
 |_=>cases e
def M4 {H s}(I:Inv X ah σ H s)(h1:mf k1 X.K N l1 vs)(i1:IsL X.K N vs ds)(h2:mf k2 X.K N l2 ws)(i2:IsL X.K N ws es):mM X.K (R5 X.K k1 k2 l1 l2) N (jh ds es):=by
 intro i H' G;have n1:=i1.length;have n2:=i2.length;refine⟨λd ed=>?_,λhl=>⟨vs,ws,h1.same G,h2.same G,?_⟩⟩
 ·unfold jh at ed;rw[List.getElem?_zipWith]at ed;cases M:ds[i]? with
  |none=>rw[M]at ed;simp at ed
  |some x=>
   cases e2:es[i]? with
   |none=>rw[M,e2]at ed;simp at ed
   |some y=>
    rw[M,e2]at ed;simp at ed;subst ed;obtain⟨v,U,iv⟩:=i1.get M;obtain⟨w,ew,iw⟩:=i2.get e2;refine⟨⟨vs,ws,v,w,h1.same G,h2.same G,U,ew⟩,λr H2 hy=>?_⟩;obtain⟨T,v',w',rfl,hT,rfl,f1,f2⟩:=hy;have e3:=f1 vs (h1.same G);have e4:=f2 ws (h2.same G);rw[U]at e3;cases e3;rw[ew]at e4;cases e4;have O:=Ext.laid (o:=.tup [v,w]) G hT;exact⟨_,O,.tup (js.of aB) (.cons (iv.mono O.bn) (.cons (iw.mono O.bn) .nil))⟩
 ·unfold jh at hl;rw[List.length_zipWith]at hl;omega
def FJ {es:QD}{kt:Nat}{pt:Pos}{fa fb:FE}(hm:X.mg "zip" = none)(ha:JE X a fa)(hb:JE X b fb)(hg:Gl X "zip":=by rfl)(hs:starEach [a,b] X.env=[(false,eval a X.env),(false,eval b X.env)]:=by rfl)(M:starEach [b] X.env=[(false,eval b X.env)]:=by rfl):
  JI X (.Tuple es kt pt) (.Call (.Name "zip" p) [a,b] [] pos) (FI fa fb):=by
 intro ah s σ H R I q;refine M3 hg hm (ai ha (ai hb ao M) (by rw[hs,M])) hs M ah s σ H R I ?_;obtain⟨B,ρ,ds,sB,r,G,q⟩:=q;obtain⟨x1,ex,G⟩:=oX G;obtain⟨y1,ey,G⟩:=oX G;obtain⟨xs,O,G⟩:=oX G;obtain⟨ys,T,G⟩:=oY G;subst G;refine⟨B,ρ,[x1.1,y1.1],sB,r,by simp[ag,aj,ex,ey],λvs H1 N1 U i1=>?_⟩;cases i1 with
 |cons j1 j2=>
  cases j2 with
  |cons j2 j3=>
   cases j3
   obtain⟨k1,l1,us,rfl,s1,m1⟩:=yG j1 O;obtain⟨k2,l2,ws,rfl,s2,m2⟩:=yG j2 T;exact⟨k1,k2,l1,l2,us,ws,rfl,s1.same U.nh,s2.same U.nh,q _ H1 N1 U (M4 I s1 m1 s2 m2)⟩
end
noncomputable def unown1 (ρ:Env)(i:Nat):Env:=match ρ[i]? with
 |some (some (d,true))=>ρ.set i (some (d,false))
 |_=>ρ
def dU.unown1 {K:Frag}{B0 H0 N H:Hp}{σ:St}{ρ:Env}(s:dU K B0 H0 N H σ ρ)(i:Nat):dU K B0 H0 N H σ (unown1 ρ i):=by
 unfold DL.unown1;split
 ·rename_i d hd;obtain⟨a,ob,h1,h2,h3,h4⟩:=s.ow i d hd;have get:∀ {j:Nat}{e:D}{b:Bool},(ρ.set i (some (d,false)))[j]? = some (some (e,b))->(i=j/\e=d/\b=false)∨(i≠j/\ρ[j]? = some (some (e,b))):=λq=>by
   rcases cm q with⟨z,p⟩|⟨z,p⟩
   ·cases p;exact .inl ⟨z,rfl,rfl⟩
   ·exact .inr ⟨z,p⟩
  have o:∀c,own σ (ρ.set i (some (d,false))) c->own σ ρ c/\c≠a:=λc ⟨j,e,O,M⟩=>by
   rcases get O with⟨_,_,z⟩|⟨ne,q⟩
   ·cases z
   ·exact⟨⟨j,e,q,M⟩,λz=>by subst z;exact ne (s.inj i j _ _ _ hd q h1 M)⟩
  have c:aZ (dW N (own σ ρ)) (dW N (own σ (ρ.set i (some (d,false))))):=eV λb u e q=>⟨e,λz=>q (o b z).1⟩;have T:¬own σ (ρ.set i (some (d,false))) a:=λz=>(o a z).2 rfl;refine⟨s.bh,s.tb,s.ext,by rw[length_set];exact s.len,λj e q=>?_,λj e q=>?_,λj k b e f q G U z2=>?_⟩
  ·rcases get q with⟨rfl,rfl,_⟩|⟨_,q⟩
   ·exact⟨_,h1,(h4.mono c).is (by rw[cY T];exact h2)⟩
   ·obtain⟨v,k1,k2⟩:=s.sh j e q;exact⟨v,k1,k2.mono c⟩
  ·rcases get q with⟨_,_,z⟩|⟨_,q⟩
   ·cases z
   ·obtain⟨a',o',k1,k2,k3,k4⟩:=s.ow j e q;exact⟨a',o',k1,k2,k3,k4.mono c⟩
  ·rcases get q with⟨_,_,z⟩|⟨_,q⟩
   ·cases z
   ·rcases get G with⟨_,_,z⟩|⟨_,G⟩
    ·cases z
    ·exact s.inj j k b e f q G U z2
 ·exact s
@[simp] noncomputable def Jf (is:LN)(g:FS):FS:=λρ=>g (is.foldl unown1 ρ)
theorem dU.unowns {K:Frag}{B0 H0 N H:Hp}{σ:St}:∀(is:LN){ρ:Env},dU K B0 H0 N H σ ρ->dU K B0 H0 N H σ (is.foldl DL.unown1 ρ)
 |[],_,s=>s
 |i::is,_,s=>dU.unowns is (s.unown1 i)
def M5 {K:Frag}{is:LN}{g:FS}{E:Ends}{σ:St}{H:Hp}(q:mK K (Jf is g) E σ H):mK K g E σ H:=by
 obtain⟨B0,H0,ρ,r,⟨N,s⟩,e,p⟩:=q;exact⟨B0,H0,_,r,⟨N,s.unowns is⟩,e,p⟩
def yH {X:Cx}{st:Stmt}{g:FS}(is:LN)(h:JS X st g):JS X st (Jf is g):=PS.to h λ_ _ _ q=>M5 q
@[simp] noncomputable def Cc:FS:=λρ=>some (.ct ρ)
@[simp] noncomputable def AR:FS:=λ_=>none
section
variable {X:Cx}{pos:Pos}
def Ce:JS X (.Continue pos) Cc:=PS.to yj λE σ H q=>by
 obtain⟨B0,H0,ρ,r,s,e,p⟩:=q;cases e
 exact p σ H s
def yI {st:Stmt}:JS X st AR:=λah s σ H E I q=>by
 obtain⟨B0,H0,ρ,r,_,e,_⟩:=q;cases e
end
inductive CRows (K:Frag)(P:Params):List DictEntry->List (Str×D)->Prop where
 |nil:CRows K P [] []
 |tup {x:Str}{t:Tok}{h:Int}{a:Addr}{its:Array Value}{n:Nat}{lY:Array (Option Value)}{ds:List D}{r:List DictEntry}{aM:List (Str×D)}(hh:h=PyData.keyHash P x)
   (l:K.lookup a=some ⟨.type "tuple",none,.seq its n,lY⟩) (f:(decide (its.size<=1000) && jK its.toList ds)=true) (tl:CRows K P r aM):CRows K P (⟨h,.str x t,.ref a⟩::r) ((x,.tup ds)::aM)
 |flat {x:Str}{t:Tok}{h:Int}{u:Value}{d:D}{r:List DictEntry}{aM:List (Str×D)}(hh:h=PyData.keyHash P x) (f:xn u d=true) (tl:CRows K P r aM):CRows K P (⟨h,.str x t,u⟩::r) ((x,d)::aM)
theorem CRows.lit {K:Frag}{P:Params}:∀ {es:List DictEntry}{aM:List (Str×D)},CRows K P es aM->PySem.W.KeysLit P es
 |_,_,.nil=>trivial
 |_,_,.tup hh _ _ tl=>⟨⟨_,_,rfl,hh⟩,tl.lit⟩
 |_,_,.flat hh _ tl=>⟨⟨_,_,rfl,hh⟩,tl.lit⟩
theorem CRows.find {K:Frag}{P:Params}(y:Str):∀ {es:List DictEntry}{aM:List (Str×D)},CRows K P es aM->match aM.lookup y with
  |none=>es.find? (λe=>Value.isStrOf y e.key)=none
  |some d=>∃e v,es.find? (λe=>Value.isStrOf y e.key)=some e/\be v e.val/\∀B,Is K B v d
 |_,_,.nil=>rfl
 |_,_,.tup (x:=x) (t:=t) (a:=a) (ds:=ds) hh l f tl=>by
  by_cases e:y=x
  ·subst e;rw[lookup_cons_self];rw[vC]at f;obtain⟨vs,r,i⟩:=jL (K:=K) f.2;exact⟨_,.ref a,List.find?_cons_of_pos (by simp[Value.isStrOf]),rfl,λB=>.tup (.inr ⟨_,_,_,l,rfl,rfl,le_of_lt (lt_of_le_of_lt (PN f.1) (by decide)),r⟩) (i B)⟩
  ·have G:=tl.find y;rw[lookup_cons,beq_eq_false_iff_ne.mpr e];have M:Value.isStrOf y (Value.str x t)=false:=by
    rw[Bool.eq_false_iff];intro z;obtain⟨t',q⟩:=Value.isStrOf_shape z;injection q with O;exact e O.symm
   simp only[find?_cons,M];exact G
 |_,_,.flat (x:=x) (t:=t) (u:=u) (d:=d) hh f tl=>by
  by_cases e:y=x
  ·subst e;rw[lookup_cons_self];obtain⟨v,U,_⟩:=ly (K:=K) (B:=λ_=>none) f;refine⟨_,v,List.find?_cons_of_pos (by simp[Value.isStrOf]),U,λB=>?_⟩;obtain⟨v',T,i'⟩:=ly (K:=K) (B:=B) f;have:v'=v:=by have z1:=U.abs;rw[T.abs]at z1;exact vK z1
   subst this;exact i'
  ·have G:=tl.find y;rw[lookup_cons,beq_eq_false_iff_ne.mpr e];have M:Value.isStrOf y (Value.str x t)=false:=by
    rw[Bool.eq_false_iff];intro z;obtain⟨t',q⟩:=Value.isStrOf_shape z;injection q with O;exact e O.symm
   simp only[find?_cons,M];exact G
def mS (K:Frag)(P:Params)(a:Addr)(aM:List (Str×D)):Prop:=∃es n,K.lookup a=some ⟨.type "dict",none,.dict es n,#[]⟩/\CRows K P es.toList aM/\(a == sysModules)=false
def const_dict {K:Frag}{P:Params}{y:Str}{a:Addr}{es:Array DictEntry}{n:Nat}{aM:List (Str×D)}(e:nsIn K mainGlobals y=some (some (.ref a)))(l:K.lookup a=some ⟨.type "dict",none,.dict es n,#[]⟩)(r:CRows K P es.toList aM)(s:(a == sysModules)=false):
  ∃a,nsIn K mainGlobals y=some (some (.ref a))/\mS K P a aM:=⟨a,e,es,n,l,r,s⟩
section
variable {X:Cx}{a b e:Expr}{pos:Pos}{x:Str}{p:Pos}
def mS.map {ah:AO}{σ:St}{H:Hp}{s:Shared}{d:Addr}{aM:List (Str×D)}(I:Inv X ah σ H s)(h:mS X.K X.w.params d aM):∃f:SV,s.heap.MapOf (strKind X.prog X.w) d f/\(d == sysModules)=false /\
  ∀y,match aM.lookup y with|none=>f y=none|some dd=>∃u v,f y=some u/\be v u/\∀B,Is X.K B v dd:=by
 obtain⟨es,n,l,r,M⟩:=h;refine⟨_,PySem.W.mapOf_K I.kIn l r.lit,M,λy=>?_⟩;have:=r.find y;have G:findBy Value.isStrOf es y=(es.toList.find? λe=>Value.isStrOf y e.key).map (·.val):=by
  unfold findBy;obtain⟨es⟩:=es;rw[List.find?_toArray]
 cases hl:aM.lookup y with
 |none=>rw[hl]at this;dsimp only at this ⊢;rw[G,this];rfl
 |some dd=>
  rw[hl]at this;obtain⟨en,v,O,e2,T⟩:=this;exact⟨en.val,v,by rw[G,O];rfl,e2,T⟩
@[simp] noncomputable def mh (aM:List (Str×D)):D->OB
 |.str y=>(aM.lookup y).map λd=>(d,false)
 |_=>none
@[simp] noncomputable def qV (aM:List (Str×D)):D->OB
 |.str y=>some (.bl (!(aM.lookup y).isSome),false)
 |_=>none
def xo (h:∃d,X.mg x=some (.ref d)/\mS X.K X.w.params d aM)(hb:JE X b f)(hg:Gl X x:=by rfl)(hd:(x == ("__debug__" : Str))=false:=by decide)(hs:mE b:=by intro _ _;rfl):JE X (.Subscript (.Name x p) b pos) (f1 (mh aM) f):=by
 obtain⟨d,hm,cd⟩:=h;have ix:EX X (λx y H Q=>∃z dd,x=.ref d/\y=.str z/\aM.lookup z=some dd/\∀v,(∀B,Is X.K B v dd)->Q v H):=by
  intro M O ah s σ H x y v u Q I rx ry q hs;obtain⟨z,dd,rfl,rfl,el,q⟩:=q;cases rx
  obtain⟨t,rfl⟩:=ry;obtain⟨f,hM,sm,hf⟩:=cd.map I;have:=hf z;rw[el]at this;obtain⟨u,v,T,e2,e3⟩:=this;exact tail_any hM.typeIs slot_dict_getitem.lookup (wpAny_getItem_of (strKind_is X.prog X.w z t) hM T ⟨v,H,I.tok _,e2,q v e3⟩) hs
 refine PE.to (EY ix (qi (v:=.ref d) hg hm rfl hd) hb hs) λσ H Q q=>?_;obtain⟨B,ρ,d',bb,sB,r,G,q⟩:=q;obtain⟨U,ex,G⟩:=oX G;refine⟨B,ρ,U.1,U.2,sB,r,ex,λv H1 N1 xt i1 _=>?_⟩;obtain⟨xd,xb⟩:=U;cases i1<;>try (simp[mh]at G;done)
 rename_i z _;simp only[mh]at G;obtain⟨dd,T,e2⟩:=oY G;cases e2
 exact⟨z,_,rfl,rfl,T,λv hv=>(q.into xt).one xt.nh (hv _)⟩
@[simp] noncomputable def Q6:LD->OB
 |[.lst ds]=>some (.lst ds,true)
 |[.tup ds]=>some (.lst ds,true)
 |_=>none
@[simp] noncomputable def iB:LD->OB
 |[.lst ds]=>some (.tup ds,false)
 |[.tup ds]=>some (.tup ds,false)
 |_=>none
def Jg:c8 X (.type "tuple") (EA X.K iB):=by
 refine c8.to tX λxs H Q q=>?_;obtain⟨B,ds,d,bb,M,i,G,q⟩:=q;cases i with
 |nil=>simp[iB]at G
 |cons i1 i2=>
  cases i2 with
  |cons _ _=>cases i1<;>simp[iB]at G
  |nil=>
   cases i1<;>try (simp[iB]at G;done)
   ·rename_i T vs es h hl;simp only[iB]at G;cases G
    exact⟨_,_,rfl,.inr ⟨b8 M h,q.one M (.tup h hl)⟩⟩
   ·rename_i T vs es h hl;simp only[iB]at G;cases G
    refine⟨_,_,rfl,.inl ⟨M.seq h,λl hp=>?_⟩⟩;have O:=Ext.laid (o:=.tup vs) M hp;exact q _ _ _ O (.tup (js.of aB) (hl.mono O.bn)) (by simp)
end
section
variable {X:Cx}{a b e:Expr}{pos:Pos}{x:Str}{p:Pos}
@[simp] def Vf (i:Nat)(G M:FE):FS:=λρ=>match ρ[i]? with
 |some (some (.lst ds,true))=>(M ρ).bind λv=>(G ρ).bind λk=>match k.1 with
  |.int j=>(EW ds.length j).bind λn=>if bC v.1=true then some (.nx (ρ.set i (some (.lst (ds.set n v.1),true))))else none
  |_=>none
 |_=>none
@[simp] def FK (i:Nat)(f:FE):FS:=λρ=>match ρ[i]? with
 |some (some (.lst ds,true))=>(f ρ).bind λx=>match x.1 with
  |.lst es=>if x.2=true/\bD es=true/\ds.length+es.length<=sizeLine then some (.nx (ρ.set i (some (.lst (ds++es),true))))else none
  |_=>none
 |_=>none
def M6 (he:JE X e f)(hN:PE X (.Name y py) (om i):=by exact pv)
  (M:attributeBase (.Name y py) "extend" X.env (eval (.Name y py) X.env)=eval (.Name y py) X.env:=by rfl)
  (T:((backTo cF (starEach [e] X.env)).all (λx=>!x.1) && (backToKw cF (keywordEach [] X.env)).all (λx=>x.1.isSome)
   && decide ([e].length+([]:List Keyword).length+(if([]:List Keyword).isEmpty then 0 else 1)<30))=true:=by rfl)
  (O:(dM.endLine == cF.line)=true:=by rfl) (hs:starEach [e] X.env=[(false,eval e X.env)]:=by rfl) (U:swapsWith (.Call (.Attribute (.Name y py) "extend" dM) [e] [] cF) none pos.line X.env=pure false:=by rfl):
  JS X (.Expr (.Call (.Attribute (.Name y py) "extend" dM) [e] [] cF) pos) (FK i f):=by
 refine PS.to (BD (Fc PySem.F.plainAttrs_list PySem.F.slot_list_extend PySem.F.type_list_extend D3 hN (gF he je hs) M T O hs rfl) U) λE σ H q=>?_;obtain⟨B0,H0,ρ,r,⟨N,s⟩,G,p⟩:=q;unfold FK at G;split at G
 ·rename_i ds ei;obtain⟨v,ev,G⟩:=oX G;obtain⟨vd,vb⟩:=v;cases vd with
  |lst es=>
   dsimp only at G;split at G
   ·rename_i hc;cases G
    obtain⟨l,vs,Sx,z,h1,h2,h3,h4⟩:=s.owL i _ ei;cases z
    refine⟨_,h1,.inl ⟨rfl,vs,gT.of (s.ext.nh _ _ h2)⟩,N,ρ,_,_,s.ext.nh,s.rep,ev,λv1 H1 N1 x1 i1 f1=>?_⟩;obtain⟨l2,ws,Sy,rfl,z,g1,g2,g3⟩:=f1 hc.1;cases z
    have s1:=s.grow x1;obtain⟨l',Sz,Sx,z,k1,k2,_,k4⟩:=s1.owL i _ ei;cases z
    rw[h1]at k1;cases k1;exact⟨l,l2,Sz,ws,rfl,rfl,s1.ext.nh _ _ k2,x1.nh _ _ g2,by rw[k4.length,g3.length];exact hc.2.2,p σ _ ⟨_,s1.write ei h1 (k4.append (s1.flats g3 hc.2.1))⟩⟩
   ·cases G
  |_=>cases G
 ·cases G
end
open AutoSeq1 (wpAny_loadPart')
set_option maxRecDepth 100000
noncomputable def T4 (k:Bool):String:=if k=true then "list" else "tuple"
def yJ (k:Bool)(l:Addr)(items:AV)(n:Nat)(G:Option Addr)(sl:Array (Option Value)):
  Meets (Builtin.«enumerate.__new__» ⟨[.type "enumerate",.ref l],[]⟩) (λ_ R s=>s.heap.get? l=some { cls:=.type (T4 k),dict:=G,data:=.seq items n,slots:=sl } /\
   R (.ok (.ret (.ref (s.heap.push (Ia k l)).objs.size))) { s with heap:=(s.heap.push (Ia k l)).push { cls:=.type "enumerate",data:=.fields #[.none,.bool false,.ref s.heap.objs.size,rawInt 0,.none,.none] } }) :=
 .of_wp λprog w A R s hs=>by
  obtain⟨hp,g,d,tk,os⟩:=s;obtain⟨hl,hs⟩:=hs;have O:=sub_enumerate;have M:kG k (Shared.heap ⟨hp,g,d,tk,os⟩) l items:=by cases k<;>exact⟨_,hl,rfl,n,rfl⟩
  wp_walk using wpAny_loadPart' hl;refine wpAny_stack_any λst=>wY ?_;split
  ·rename_i c _ _ _ _ _;cases (c == Value.type "enumerate")
   ·wp_walk using wpAny_loadPart' hl,mR M;exact⟨_,rfl,hs⟩
   ·wp_walk using wpAny_loadPart' hl,mR M;exact⟨_,rfl,hs⟩
  ·wp_walk using wpAny_loadPart' hl,mR M;exact⟨_,rfl,hs⟩
section
variable {prog:Program}{w:World}{A:Around}{E:QV}{s:Shared}
def FL (O:kG k s.heap l items)
  (q:∀h',IsEnum h' (s.heap.objs.size+1) s.heap.objs.size 0 .none->l5 k h' s.heap.objs.size l 0->(∀b o,s.heap.get? b=some o->h'.get? b=some o)->Q (.ref (s.heap.objs.size+1)) { s with heap:=h' }):
  wpAny (model prog w) A (call (.type "enumerate") [.ref l]) Q E s:=by
 have hh:∃(G:Option Addr)(sl:Array (Option Value))(n:Nat),s.heap.get? l=some { cls:=.type (T4 k),dict:=G,data:=.seq items n,slots:=sl }:=by
  cases k<;>(obtain⟨⟨c,G,dt,sl⟩,hl,hc,n,hd⟩:=O;dsimp only at hc hd;subst hc;subst hd;exact⟨G,sl,n,hl⟩)
 obtain⟨G,sl,n,hl⟩:=hh;refine callType_new PySem.F.called_enumerate (by decide) (PySem.F.typeCall_enumerate_1 _) (PySem.F.newCall_enumerate_1 _) (λobj=>PySem.F.args_object_init_2 obj _) PySem.F.entry_enumerate_new (yJ k l items n G sl) ⟨hl,?_⟩;have n1:(s.heap.push (Ia k l)).objs.size=s.heap.objs.size+1:=Heap.size_push ..;have M:((s.heap.push (Ia k l)).push { cls:=.type "enumerate",data:=.fields #[.none,.bool false,.ref s.heap.objs.size,rawInt 0,.none,.none] }).get? (s.heap.push (Ia k l)).objs.size=some _:=vY _ rfl;have g1:((s.heap.push (Ia k l)).push { cls:=.type "enumerate",data:=.fields #[.none,.bool false,.ref s.heap.objs.size,rawInt 0,.none,.none] }).get? s.heap.objs.size=some _:=vZ _ (vY _ (by cases k<;>rfl))
 rw[n1]at M;show _/\_;rw[n1];refine⟨⟨_,M,rfl⟩,q _ M ?_ λb o e=>vZ _ (vZ _ e)⟩;cases k<;>exact⟨_,g1,rfl,rfl⟩
def M7 (U:A.handled=none)(it l:Addr)(G:l≠it)(items:AV):Draws prog w A it [it,l] items.size (λi v=>items[i]? = some v) (λi h=>l5 k h it l i/\kG k h l items) where
 live:=λi h st=>let ⟨o,e,_⟩:=st.1.ob;⟨o,e⟩
 frame:=λi h h' st O=>⟨st.1.upon λo e=>O it (by simp) o e,st.2.upon λo e=>O l (by simp) o e⟩
 item:=λi s Q E hi st q=>fZ st.1 st.2 (v:=items[i]) (by simp[hi]) λh' M T=>q _ h' s.toks (by simp[hi]) ⟨M,st.2.upon λo e=>T.extBut _ _ G e⟩ T
 done:=λs Q E st q=>jz U st.1 st.2 (by simp) q
def M8 (M:A.handled=none)(it l:Addr)(items:AV)(n:Nat)(hn:items[n]? = none):Draws prog w A it [it,l] n (λ_ _=>True) (λi h=>(l5 k h it l i/\kG k h l items)/\i=n) where
 live:=λi h st=>let ⟨o,e,_⟩:=st.1.1.ob;⟨o,e⟩
 frame:=λi h h' st G=>⟨⟨st.1.1.upon λo e=>G it (by simp) o e,st.1.2.upon λo e=>G l (by simp) o e⟩,st.2⟩
 item:=λi s Q E hi st q=>absurd st.2 (vS hi)
 done:=λs Q E st q=>jz M st.1.1 st.1.2 hn q
end
noncomputable def R6 (K:Frag)(k:Bool)(a:Addr):It :=
  ⟨λi H=>∃xs x,mf k K H a xs/\xs[i]? = some x,
   λi H v H'=>∃T x,v=.ref T/\H T=none/\H'=upd H T (.tup [.int i,x])/\∀xs,mf k K H a xs->xs[i]? = some x,
   λi H=>∃xs,mf k K H a xs/\xs.length<=i⟩
def DI {P:Program}{w:World}{K:Frag}{es:QD}{kt:Nat}{pt:Pos}{k:Bool}{a e it:Addr}(O:e≠it)(W4:a≠e)(W5:a≠it):
  Turn P w K (.Tuple es kt pt) (R6 K k a) [e,it] e (λi h=>(∃G,IsEnum h e it i G)/\l5 k h it a i) where
 mem:=by simp
 obj:=λi h st b hb=>by
  obtain⟨⟨G,he⟩,M⟩:=st;simp at hb;rcases hb with rfl|rfl
  ·exact⟨_,he,λv z=>by cases z⟩
  ·exact M.ob
 keep:=λi h h' st kk=>by
  obtain⟨⟨G,he⟩,M⟩:=st;exact⟨⟨G,kk e (by simp) _ he⟩,M.upon λo q=>kk it (by simp) o q⟩
 item:=by
  intro X hP hw hK hc i ah s σ H E I hf st hg;subst hP hw hK;obtain⟨⟨G,he⟩,M⟩:=st;obtain⟨xs,x,q1,hx⟩:=hg;obtain⟨its,r1,p1,z1⟩:=q1.vals I;obtain⟨u,hu,ru⟩:=r1.get hx;have fresh:H s.heap.objs.size=none:=I.hok.fresh (vT _);have W6:i<its.toArray.size:=by rw[vH];exact(vV hu).1
  have U:e≠s.heap.objs.size:=vS (vX he);have W7:it≠s.heap.objs.size:=by obtain⟨o,q,_⟩:=M.ob;exact vS (vX q)
  refine wpAny_pyNext_enum_itemD (M7 (A:=X.A.in1) (I.ok.hd hc) it a W5 its.toArray) he ⟨M,p1⟩ W6 O (by simp[O,W4.symm]) λv h' tk hv ho N6 hT hsz hk=>?_;have ev:v=u:=by
   have Uv:its[i]? = some v:=by simpa using hv
   rw[hu]at Uv;exact(vK Uv).symm
  subst ev;refine⟨_,rfl,wpAny_letOwnedTupleGo_enum (s:={ s with heap:=h',toks:=tk+1 }) ho λh2 NY s2=>?_⟩;have T:Heap.SameBut e h' h2:=s2;have kk:∀b o,b∉[e,it]->s.heap.get? b=some o->h2.get? b=some o:=λb o hb q=>T.extBut _ _ (λz=>hb (by simp[z])) (hk b o (λz=>hb (by simp[z])) (λz=>hb (by simp[z])) q);have new:bR X.prog X.w (upd H s.heap.objs.size (.tup [.int i,x])) h2 s.heap.objs.size (.tup [.int i,x]):=⟨by show 2<=sizeLine;decide,[.int i tk,v],.cons ⟨tk,rfl⟩ (.cons ru .nil),⟨_,T.extBut _ _ U.symm hT,rfl,_,rfl⟩⟩;refine⟨.ref s.heap.objs.size,upd H s.heap.objs.size (.tup [.int i,x]),Cb (s:=s) (t':=tk+1) I hf kk (vT _) new,rfl,⟨_,x,rfl,fresh,rfl,λzs hq=>by rw[mf.inj I hq q1];exact hx⟩,?_,λb hb=>?_⟩
  ·exact⟨⟨_,by have:=NY;rw[show((i:Int)+1)=((i+1:Nat):Int) by omega]at this;exact this⟩,N6.1.upon λo q=>T.extBut _ _ O.symm q⟩
  ·have Dp:b≠s.heap.objs.size:=by
    simp at hb;rcases hb with rfl|rfl
    ·exact U
    ·exact W7
   rw[aG Dp];exact(hf b hb).1
 done:=by
  intro X hP hw hK hc i ah s σ H E I hf st hg;subst hP hw hK;obtain⟨⟨G,he⟩,M⟩:=st;obtain⟨xs,q1,hl⟩:=hg;obtain⟨its,r1,p1,z1⟩:=q1.vals I;have n1:=r1.length;refine wpAny_pyNext_enum_endD (M8 (A:=X.A.in1) (I.ok.hd hc) it a its.toArray i (by simp;omega)) he ⟨⟨M,p1⟩,rfl⟩ λh' hk=>⟨rfl,?_⟩;exact jM (t':=s.toks) I hf λb o hb q=>hk b o (λz=>hb (by simp[z])) q
 self:=λ_ _ _ _ _ st h=>let ⟨⟨_,he⟩,_⟩:=st;wpAny_pyIter_enum he h
section
variable {X:Cx}{a b e:Expr}{pos:Pos}{p:Pos}
def yK:bootBuiltins "enumerate" = some (.type "enumerate"):=by decide +kernel
noncomputable def uF (ds:LD):LD:=ds.mapIdx λi d=>.tup [.int i,d]
@[simp] def FM (fa:FE):FA:=λρ=>(fa ρ).bind λx=>(gM x.1).map uF
def Jh {K:Frag}{N:Hp}{k:Bool}{l:Addr}{vs:LV}{ds:LD}(h1:mf k K N l vs)(i1:IsL K N vs ds):mM K (R6 K k l) N (uF ds):=by
 intro i H' G;have n1:=i1.length;refine⟨λd ed=>?_,λhl=>⟨vs,h1.same G,?_⟩⟩
 ·unfold uF at ed;rw[List.getElem?_mapIdx]at ed;obtain⟨x,e1,rfl⟩:=oY ed;obtain⟨v,M,iv⟩:=i1.get e1;refine⟨⟨vs,v,h1.same G,M⟩,λr H2 hy=>?_⟩;obtain⟨T,v',rfl,hT,rfl,f1⟩:=hy;have O:=f1 vs (h1.same G);rw[M]at O;cases O;have U:=Ext.laid (o:=.tup [.int i,v]) G hT;exact⟨_,U,.tup (js.of aB) (.cons (.int _) (.cons (iv.mono U.bn) .nil))⟩
 ·unfold uF at hl;rw[List.length_mapIdx]at hl;omega
def Ji {es:QD}{kt:Nat}{pt:Pos}{fa:FE}(hm:X.mg "enumerate" = none)(ha:JE X a fa)(hg:Gl X "enumerate":=by rfl)(hs:starEach [a] X.env=[(false,eval a X.env)]:=by rfl):
  JI X (.Tuple es kt pt) (.Call (.Name "enumerate" p) [a] [] pos) (FM fa):=by
 intro ah s σ H R I q;refine Call_ (i6 I hg hm yK (PyProof.Rows.callWith_type1 (c7 (ai ha ao hs pos ah s σ H (λvs G=>∃(k:Bool)(l:Addr)(us:LV),vs=[.ref l]/\mf k X.K G l us/\R (R6 X.K k l) G) I ?_) λus s1 ⟨vs,G,T,r1,q1⟩=>?_) hs rfl))
 ·obtain⟨B,ρ,ds,sB,r,M,q⟩:=q;obtain⟨x1,ex,M⟩:=oX M;obtain⟨xs,U,M⟩:=oY M;subst M;refine⟨B,ρ,[x1.1],sB,r,by simp[ag,aj,ex],λvs G N1 xt i1=>?_⟩;cases i1 with
  |cons j1 j2=>
   cases j2
   obtain⟨k1,l1,us,rfl,s1,m1⟩:=yG j1 U;exact⟨k1,l1,us,rfl,s1.same xt.nh,q _ G N1 xt (Jh s1 m1)⟩
 ·obtain⟨k,l,ws,rfl,h1,q⟩:=q1;obtain⟨u1,rfl,Nz⟩:=r1.one;cases Nz
  obtain⟨its,v1,p1,z1⟩:=h1.vals T;have ED:=p1.lt;refine FL p1 λh' c1 c2 ck=>?_;refine wpAny_pyIter_enum c1 ⟨s1.heap.objs.size+1,[s1.heap.objs.size+1,s1.heap.objs.size],_,_,G,rfl,T.kept (t':=s1.toks) ck,
   DI (Nat.succ_ne_self _) (vS (lt_succ_of_lt ED)) (vS ED),⟨⟨_,c1⟩,c2⟩,λb hb=>?_,q⟩
  have O:s1.heap.objs.size<=b:=by
   simp at hb;rcases hb with rfl|rfl
   ·exact le_succ _
   ·exact vT _
  exact T.fpOk O (T.hok.fresh O)
end
end DL
namespace DL
open PySem PySem.Spec PyProof.Rows
def DJ (t:SetTable)(es:Array (Int×Value))(n:Nat):(relayAll t es n).2.1.led=t.led:=by
 unfold relayAll;split
 ·rename_i t' G h;unfold SetTable.relaid SetTable.laid at h;obtain⟨ow,_,h⟩:=oX h;cases h
  dsimp only;split<;>rfl
 ·rfl
def yL (t:SetTable)(es:Array (Int×Value))(n:Nat)(hp:t.plain=false):(relayAll t es n).2.1.plain=false:=by
 unfold relayAll;split
 ·rename_i t' G h;unfold SetTable.relaid SetTable.laid at h;obtain⟨ow,_,h⟩:=oX h;cases h
  dsimp only;split
  ·exact hp
  ·rfl
 ·rfl
def Jj (t:SetTable)(es:Array (Int×Value))(h:Int)(x:Value):(layNew t es h x).2.1.led=t.led:=by
 unfold layNew;split
 ·dsimp only[SetTable.put,SetTable.orStandIn];repeat' (first|rfl|split)
 ·rfl
structure TabT (w:World)(es:Array (Int×Value))(t:SetTable):Prop where
 fits:t.fits es.size=true
 led:t.led = !w.params.followText "set-order"
 plain:es.size≠0->t.plain=false
def iS (prog:Program)(w:World)(h:Heap)(a:Addr)(G:LS):Prop :=
 ∃o es M t,h.get? a=some o/\o.ExactSet/\o.data=.set es M t/\ElemsOf (PySem.strKind prog w) es.toList/\(es.toList.map (λe=>strOf e.2)).Perm G/\G.Nodup/\G.length<scanBound/\TabT w es t
noncomputable def ji (G:LS)(x:Str):LS:=if x∈G then G else G++[x]
def FN (G:LS)(x:Str):(ji G x).length<=G.length+1:=by unfold ji;split<;>simp
def yM (h:Value.isStrOf k v=true):strOf v=k:=by obtain⟨t,rfl⟩:=Value.isStrOf_shape h;rfl
section
variable {prog:Program}{w:World}{A:Around}{E:QV}{s:Shared}
def uG {es:Array (Int×Value)}{O:LS}(M:ElemsOf (PySem.strKind prog w) es.toList)(hp:(es.toList.map (λe=>strOf e.2)).Perm O)(k:Str):k∈O ↔ ∃e∈es.toList,(PySem.strKind prog w).is k e.2=true:=by
 rw[←hp.mem_iff,List.mem_map];constructor
 ·rintro⟨e,he,rfl⟩;obtain⟨⟨k',hk,_⟩,_⟩:=M e he;have G:Value.isStrOf k' e.2=true:=hk;refine⟨e,he,?_⟩;show Value.isStrOf (strOf e.2) e.2=true;rw[yM G];exact G
 ·rintro⟨e,he,hk⟩;exact⟨e,he,yM hk⟩
def uH {h:Heap}{a:Addr}{o:Obj}{es:Array (Int×Value)}{M:Nat}{t:SetTable}(O:h.get? a=some o)(hd:o.data=.set es M t)(G:Array (Int×Value))(t':SetTable):
  (h.update a (Obj.putSet G t')).get? a=some { o with data:=.set G (M+1) t' }:=by
 have:=Heap.get?_update_self (Obj.putSet G t') O (by rw[putSet_of G t' hd];rfl);rw[putSet_of G t' hd]at this;exact this
def yN {g:Bool->Sem Unit}(hg:∀(b:Bool)(U:Shared)(Q':Unit->Shared->Prop),Q' () U->wpAny (model prog w) A (g b) Q' E U)
  {a:Addr}{o:Obj}{es:Array (Int×Value)}{ep:Nat}{t:SetTable}(ho:s.heap.get? a=some o) (K6:o.ExactSet) (hd:o.data=.set es ep t)
  {G:Array (Int×Value)}{M:SetTable}{ts:LS}(HU:ElemsOf (PySem.strKind prog w) G.toList) (NZ:(G.toList.map (λe=>strOf e.2)).Perm ts) (nd:ts.Nodup)
  (hb1:ts.length<scanBound) (W8:M.fits G.size=true) (PM:M.led = !w.params.followText "set-order") (Ii:M.plain=false) {O:Bool}{R:Option Bool->Shared->Prop}
  (h:∀h',Heap.SameBut a s.heap h'->iS prog w h' a ts->R (some true) { s with heap:=h' }):
  wpAny (model prog w) A (do
    storeSet a G M
    if(!O && M.tooFull)=true then do
      g (relayAll M G (SetTable.grown G.size)).2.2
      storeSet a (relayAll M G (SetTable.grown G.size)).1 (relayAll M G (SetTable.grown G.size)).2.1
      pure (some true)
     else pure (some true)) R E s:=by
 have Uw:G.size=ts.length:=by rw[←NZ.length_eq,vI,vG]
 refine wX (wpAny_storeSet_of ho hd ?_ (fits_of_scanBound (by rw[Uw];exact hb1)));have Oa:=uH ho hd G M;have Qh:=vW s.heap a (Obj.putSet G M);split
 ·have hp:=relayAll_perm M G (SetTable.grown G.size);have S1:=relayAll_fits M G (SetTable.grown G.size);have K7:=DJ M G (SetTable.grown G.size);have S2:=yL M G (SetTable.grown G.size) Ii;generalize hRl:relayAll M G (SetTable.grown G.size)=Rl at hp S1 K7 S2 ⊢;obtain⟨T,t3,Ux⟩:=Rl;dsimp only at hp S1 K7 S2 ⊢;have S3:ElemsOf (PySem.strKind prog w) T.toList:=HU.perm hp;have hsz:T.size=G.size:=by rw[←vG,hp.length_eq,vG]
  refine wX (hg _ _ _ ?_);refine wX (wpAny_storeSet_of Oa rfl ?_ (fits_of_scanBound (by rw[hsz,Uw];exact hb1)));have W9:=uH Oa rfl T t3;exact wY (h _ (Qh.trans (vW _ a _)) ⟨_,T,_,t3,W9,K6,rfl,S3,(hp.map _).trans NZ,nd,hb1,S1,K7.trans PM,λ_=>S2⟩)
 ·exact wY (h _ Qh ⟨_,G,_,M,Oa,K6,rfl,HU,NZ,nd,hb1,W8,PM,λ_=>Ii⟩)
def AS {a:Addr}{U:LS}{k:Str}{tk:Tok}{Q:Bool->Shared->Prop}(hS:iS prog w s.heap a U)(Qi:U.length+1<scanBound)
  (h:∀b h',Heap.SameBut a s.heap h'->iS prog w h' a (ji U k)->Q b { s with heap:=h' }):
  wpAny (model prog w) A (setAddHashed a (.str k tk) ((PySem.strKind prog w).hash k)) Q E s:=by
 have hS0:=hS;obtain⟨o,es,ep,t,ho,K6,hd,Ls,G,nd,hb,hf,K8,Ii⟩:=hS;have Qj:(PySem.strKind prog w).is k (.str k tk)=true:=strKind_is prog w k tk;have sz:es.size=U.length:=by rw[←G.length_eq,vI,vG]
 unfold setAddHashed setAddHashedIn;refine wpAny_holding (wX (wpAny_setState_of ho hd hf ?_));dsimp only;rw[byScan_of (x:=.str k tk) rfl (by rw[sz];exact hb) Ls];simp only[↓reduceIte];unfold setAddByScan;refine wX ?_;refine wX (wpAny_rule ?_);refine wX (wpAny_setScan_of Qj ho hd hf Ls ?_);cases hr:List.findIdx? (λe=>(PySem.strKind prog w).is k e.2) es.toList with
 |some j=>
  dsimp only;obtain⟨hj,WA,_⟩:=List.findIdx?_eq_some_iff_getElem.mp hr;have hm:k∈U:=(uG Ls G k).mpr ⟨es.toList[j],getElem_mem hj,WA⟩;refine wY (wY ?_);have e:ji U k=U:=by unfold ji;rw[if_pos hm]
  exact h false s.heap (Heap.SameBut.refl a s.heap) (by rw[e];exact hS0)
 |none=>
  dsimp only;have hm:k∉U:=λz=>by
   obtain⟨e,he,hp⟩:=(uG Ls G k).mp z;have:=List.findIdx?_eq_none_iff.mp hr e he;rw[hp]at this;exact Bool.noConfusion this
  have ea:ji U k=U++[k]:=by unfold ji;rw[if_neg hm]
  have WB:∀(b:Bool){T:Shared}{Q':Unit->Shared->Prop},Q' () T->wpAny (model prog w) A (match b with|true=>rule "set.scan.the-table-gave-way" | false=>pure ()) Q' E T :=
   λb T Q' hq=>by cases b<;>first|exact wY hq|exact wpAny_rule hq
  have M:=layNew_perm t es ((PySem.strKind prog w).hash k) (.str k tk);have O:=layNew_fits t es ((PySem.strKind prog w).hash k) (.str k tk);have K9:=Jj t es ((PySem.strKind prog w).hash k) (.str k tk);generalize hL:layNew t es ((PySem.strKind prog w).hash k) (.str k tk)=L at M O K9 ⊢;obtain⟨Uy,t1,Qk,S4⟩:=L;dsimp only at M O K9 ⊢;rw[toList_push]at M;have HU:ElemsOf (PySem.strKind prog w) Uy.toList:=(Ls.push Qj rfl).perm M;have NZ:(Uy.toList.map (λe=>strOf e.2)).Perm (U++[k]):=(M.map _).trans (by rw[uW];exact G.append_right _);have Uz:(U++[k]).Nodup:=by
   rw[nodup_append];refine⟨nd,by simp,λx hx y hy=>?_⟩;rw[mem_singleton]at hy;subst hy;exact λz=>hm (z ▸ hx)
  have hb1:(U++[k]).length<scanBound:=by rw[uZ];exact Qi
  refine wX (WB _ ?_);have Ql:∀h',Heap.SameBut a s.heap h'->iS prog w h' a (U++[k])->Q true { s with heap:=h' }:=λh' hsb HV=>h true h' hsb (by rw[ea];exact HV);split
  ·refine wX ?_;rw[hashByValue_scannable 8 (x:=.str k tk) rfl];refine wY ?_;refine yN ?_ ho K6 hd HU NZ Uz hb1 ?_ ?_ ?_ ?_
   ·intro b T Q' hq;cases b<;>first|exact wY hq|exact wpAny_rule hq
   ·exact SetTable.fits_plain_off O
   ·exact K9.trans K8
   ·rfl
   ·intro h' hsb HV;dsimp only;exact wY (Ql h' hsb HV)
  ·rename_i hnp;refine wX (wY ?_);simp only[↓reduceIte];refine yN ?_ ho K6 hd HU NZ Uz hb1 O (K9.trans K8) (by simpa using hnp) ?_
   ·intro b T Q' hq;cases b<;>first|exact wY hq|exact wpAny_rule hq
   ·intro h' hsb HV;dsimp only;exact wY (Ql h' hsb HV)
end
noncomputable def ga (ss:LS):LS:=ss.foldl ji []
def AT (h:ts.Nodup)(x:Str):(ji ts x).Nodup:=by
 unfold ji;split
 ·exact h
 ·rename_i hm;rw[nodup_append];refine⟨h,by simp,λy hy z hz=>?_⟩;rw[mem_singleton]at hz;subst hz;exact λe=>hm (e ▸ hy)
def qW:y∈ji ts x↔y∈ts∨y=x:=by
 unfold ji;split
 ·rename_i hm;exact⟨.inl,λz=>z.elim id λe=>e ▸ hm⟩
 ·simp
def xp (ss:LS):∀G:LS,(ss.foldl ji G).length<=G.length+ss.length:=by
 induction ss with
 |nil=>intro G;simp
 |cons x r M=>intro G;rw[foldl_cons];have:=M (ji G x);have:=FN G x;simp only[vE];omega
def qX (ss:LS):(ga ss).length<=ss.length:=by have:=xp ss [];simpa [ga]using this
def DK (ss:LS)(x:Str):ga (ss++[x])=ji (ga ss) x:=by unfold ga;rw[foldl_append];rfl
theorem StrsAre.at:∀ {vs:LU}{ss:LS},StrsAre vs ss->∀(i:Nat)(v:Value),vs[i]? = some v->∃x t,v=.str x t/\ss[i]? = some x
 |_,_,.nil,i,v,h=>by simp at h
 |_,_,.cons x t G,0,v,h=>by simp at h;exact⟨x,t,h.symm,rfl⟩
 |_,_,.cons x t G,i+1,v,h=>by
  simp only[getElem?_cons_succ]at h;exact StrsAre.at G i v h
def iS.at (x:iS prog w h a ts)(k:∀o,h.get? a=some o->h'.get? a=some o):iS prog w h' a ts:=by
 obtain⟨o,es,G,t,M,r⟩:=x;exact⟨o,es,G,t,k o M,r⟩
section
variable {prog:Program}{w:World}{A:Around}{R:Result->Shared->Prop}{I:Addr}{fp wr:List Addr}{G:Array GenState->Array GenState->Prop}{n:Nat}{P:Nat->Value->Prop}{St:Nat->Shared->Prop}
def xq (W:WalksS prog w A.in1 I fp wr G n P St)(S:Addr)(T:S∉fp)(ss:LS)(hn:ss.length=n)
  (U:∀i v,P i v->∃x t,v=.str x t/\ss[i]? = some x) (hb:n+1<scanBound):
  ∀(k i:Nat)(s:Shared),n - i=k->i<=n->St i s->iS prog w s.heap S (ga (ss.take i)) ->
   (∀s',Moved (S::wr) G s s'->iS prog w s'.heap S (ga ss)->R (.ok (.ret .none)) s') ->
   codeAny (model prog w) A (.builtin "set.update.loop" ⟨[.ref S,.ref I],[]⟩) R s:=by
 have U0:S∉wr:=λh=>T (W.sub _ h);have M:∀b∈wr,b∈S::wr:=λb hb=>mZ _ hb;intro k;induction k with
 |zero=>
  intro i s hk hi O hS hR;have HW:i=n:=by omega
  subst HW;refine codeAny_builtin PyProof.Rows.F.entry_set_update_loop ?_;rw[Around.under_plainId PyProof.Rows.F.plain_set_update_loop _];show wpAny _ A.in1 (pyNext (.ref I)>>=_) _ _ s;refine wX (W.done s _ _ O λs' hm=>?_);show wpAny _ A.in1 (ret Value.none) _ _ s';refine wY (hR s' (hm.mono M) ?_);rw[List.take_of_length_le (by omega)]at hS;exact hS.at λo e=>hm.heap S _ U0 e
 |succ k ih=>
  intro i s hk hi O hS hR;have Ay:i<n:=by omega
  refine codeAny_builtin PyProof.Rows.F.entry_set_update_loop ?_;rw[Around.under_plainId PyProof.Rows.F.plain_set_update_loop _];show wpAny _ A.in1 (pyNext (.ref I)>>=_) _ _ s;refine wX (W.item i s _ _ Ay O λv s' hP hst' hm=>?_);obtain⟨x,t,rfl,hx⟩:=U i v hP;have HV:iS prog w s'.heap S (ga (ss.take i)):=hS.at λo e=>hm.heap S _ U0 e;show wpAny _ A.in1 (holding [Value.str x t] (setAdd S (.str x t))>>=_) _ _ s';refine wX (wpAny_holding ?_);unfold setAdd;refine wpAny_holding ?_;refine wX ((PySem.strKind prog w).pyHash (k:=x) (strKind_is prog w x t) ?_);have hl:(ga (ss.take i)).length+1<scanBound:=by have:=qX (ss.take i);rw[length_take]at this;omega
  refine AS (s:={ s' with toks:=s'.toks+1 }) HV hl λb h' hsb Lu=>?_;have QP:iS prog w h' S (ga (ss.take (i+1))):=by
   rw[take_add_one,hx,toList_some,DK];exact Lu
  refine wY ⟨plainId_quiet PyProof.Rows.F.plain_set_update_loop _,ih (i+1) _ (by omega) Ay (W.frame _ s' _ _ hst' (le_succ _) λb hb o e=>?_) QP λQm hm'' hS''=>?_⟩
  ·rw[hsb.2 b (λh:b=S=>T (by rw[←h];exact hb))];exact e
  ·refine hR Qm (Moved.trans W.gtrans ((hm.mono M).then_heap (le_succ _) λb o hb e=>?_) hm'') hS'';rw[hsb.2 b (λh:b=S=>hb (by rw[h];exact mX))];exact e
end
section
variable {prog:Program}{w:World}{A:Around}{E:QV}{s:Shared}
noncomputable abbrev fm (w:World):Obj:={ cls:=.type "set",dict:=none,data:=.set #[] 0 (.fresh 0 0 (!w.params.followText "set-order")) }
def yO (a:Value) 
  (h:Q₁ (.ref s.heap.objs.size) { s with heap:=s.heap.push (fm w) }):
  codeAny (model prog w) A (.call (.builtin "set.__new__") ⟨[.type "set",a],[]⟩) (wants Q₁ E) s:=by
 refine codeAny_of_tree ?_;show wpAny _ A.in1 (do checkBuiltinCall "set.__new__" ⟨[.type "set",a],[]⟩;again (.builtin "set.__new__" ⟨[.type "set",a],[]⟩)) _ _ s;refine wX (wpAny_of_eq (PySem.F.newCall_set_1 a) (wY ⟨plainId_quiet plain_set_new _,codeAny_builtin PySem.F.entry_set_new ?_⟩));rw[Around.under_plainId plain_set_new _];unfold Builtin.«set.__new__» Builtin.Frozenset.newClass;have G:=sub_set_self;obtain⟨hp,g,d,tk,os⟩:=s;dsimp only;wp_walk;refine wpAny_askSetting (wY ?_);dsimp only;simp only[newObj];refine wX (wpAny_alloc (wY ?_));exact wY h
set_option maxHeartbeats 3200000 in
def qY 
  (hh:A.handled=none) (hl:s.heap.IsList l items) (hi:StrsAre items.toList ss) (hb:items.size+1<scanBound)
  (h:∀(h':Heap)(tk:Nat),iS prog w h' s.heap.objs.size (ga ss) ->
   (∀b o,b<s.heap.objs.size->s.heap.get? b=some o->h'.get? b=some o)->Q (.ref s.heap.objs.size) { s with heap:=h',toks:=tk }):
  wpAny (model prog w) A (call (.type "set") [.ref l]) Q E s:=by
 obtain⟨c,tl,WC⟩:=called_set.mro;have U1:=called_set.made;have WD:=called_set.sub;refine wpAny_call (codeAny_of_tree ?_);show wpAny _ _ (callAny (.type "set") _) _ _ _;refine wY ⟨Code.quiet_builtin _ (by decide +kernel),codeAny_builtin PySem.F.entry_type_call ?_⟩;rw[Around.under_plain (weight_type_call_type "set" [.ref l] []) rfl];have h1:=called_set.notType;have h2:=called_set.canCreate;have XZ:=PySem.F.typeCall_set_1 (.ref l);have lu:ss.length=items.size:=by have:=hi.strs;rw[←this,vI,vG]
 repeat (any_goals (first|assumption|wp_step))
 refine codeAny_mono (yO (.ref l) (E:=E) (Q₁:=λobj O=>obj=.ref s.heap.objs.size/\O={ s with heap:=s.heap.push (fm w) }) ⟨rfl,rfl⟩) λr O hr=>?_;cases r with
 |error e=>exact hr
 |ok fl=>
  cases fl with
  |ret obj=>
   obtain⟨rfl,rfl⟩:=hr;have hS:(s.heap.push (fm w)).get? s.heap.objs.size=some (fm w):=vY _ rfl;have hT:Shared.TypeIs { s with heap:=s.heap.push (fm w) } (.ref s.heap.objs.size) "set":=⟨_,hS,rfl⟩;have Ya:=called_set.init.lookup;have Yb:=called_set.init.bind (.ref s.heap.objs.size);repeat (any_goals (first|assumption|wp_step))
   refine codeAny_mono (codeAny_call_builtin (R:=wants (λr T=>r=.none/\∃h' tk,T={ s with heap:=h',toks:=tk } /\
     iS prog w h' s.heap.objs.size (ga ss) /\
     (∀b o,b<s.heap.objs.size->s.heap.get? b=some o->h'.get? b=some o)) E) called_set.init.plain PySem.F.entry_set_init (check_set_init_1 hT ?_)) λr₂ T G=>?_
   ·obtain⟨ol,QQ,N7,nl,Ob⟩:=hl;obtain⟨WE,U,U2,M⟩:=ol;simp only at N7 Ob;subst N7;subst Ob;have S6:(s.heap.push (fm w)).get? l=some { cls:=.type "list",dict:=U,data:=.seq items nl,slots:=M }:=vZ _ QQ;have WG:=PySem.F.sub_list_set;have WH:=PySem.F.sub_list_frozenset;have Dp:(Value.type "list" == Value.type "dict")=false:=by decide
    have K9:(s.heap.push (fm w)).IsList l items:=⟨_,S6,rfl,nl,rfl⟩;unfold Builtin.«set.__init__» noKeywords Builtin.Frozenset.updateFrom;generalize hPI:pyIter=PI;wp_walk;subst hPI;refine wpAny_pyIter_list K9 ?_;refine wX (wpAny_runValue ?_);have U3:l<s.heap.objs.size:=vX QQ;have WI:A.in1.in1.in1.handled=none:=by simp[hh]
    have S7:l≠(s.heap.push (fm w)).objs.size:=by
     rw[Heap.size_push];exact vS (lt_succ_of_lt U3)
    have QR:s.heap.objs.size∉[(s.heap.push (fm w)).objs.size,l]:=by
     rw[Heap.size_push];simp only[mem_cons,mem_singleton,not_mem_nil,or_false,not_or];exact⟨vS (lt_succ_self _),ne_of_gt U3⟩
    have S8:∀(i:Nat)(v:Value),items[i]? = some v->∃x t,v=.str x t/\ss[i]? = some x:=λi v hv=>
     StrsAre.at hi i v (by rw[getElem?_toList];exact hv)
    refine xq ((Walks.list WI _ l S7 items).toS) s.heap.objs.size
     QR ss lu S8 hb (items.size - 0) 0 _ (by omega) (uN _)
     ⟨⟨_,vY _ rfl,rfl,rfl⟩,(K9.push _)⟩ ?hS0 ?hR
    case hS0=>
     have S9:((s.heap.push (fm w)).push { cls:=.type "list_iterator",data:=.fields #[.ref l,.int 0 0] }).get? s.heap.objs.size
       = some (fm w):=vZ _ hS
     exact⟨_,#[],0,_,S9,⟨rfl,rfl,rfl⟩,rfl,λe he=>by simp at he,List.Perm.refl _,nodup_nil,(by show(0:Nat)<scanBound;decide),rfl,rfl,λz=>absurd rfl z⟩
    case hR=>
     intro s' hm HV
     obtain⟨h',g',d',NA,WJ⟩:=s'
     have eg:g'=s.gens:=hm.gens
     have ed:d'=s.drawn:=hm.drawn
     have eo:WJ=s.os:=hm.os
     subst eg;subst ed;subst eo
     show wpAny _ _ _ _ _ _
     refine wY ?_
     show wpAny _ _ (ret Value.none) _ _ _
     refine wY ⟨rfl,h',NA,rfl,HV,λb o hb e=>?_⟩
     have hb1:b≠s.heap.objs.size:=vS hb
     have WK:b≠(s.heap.push (fm w)).objs.size:=by
      rw[Heap.size_push];exact vS (lt_succ_of_lt hb)
     exact hm.heap b o (by simp only[mem_cons,mem_singleton,not_mem_nil,or_false,not_or];exact⟨hb1,WK⟩) (vZ _ (vZ _ e))
   ·cases r₂ with
    |error e=>exact G
    |ok fl₂=>
     cases fl₂ with
     |ret r=>
      obtain⟨rfl,h',tk,rfl,HV,Lv⟩:=G;repeat (any_goals (first|assumption|wp_step))
      exact h _ _ HV Lv
     |_=>exact G.elim
  |_=>exact hr.elim
end
open Sem (wp)
section
variable {M:Model}{A:Around}{E:QV}{s:Shared}
def Jk (hn:n≠0)(h:∀k d,k<n->Q k { s with drawn:=d }):wpAny M A (choose src n) Q E s:=by
 intro G p O;unfold choose;rw[Sem.wp_choose];refine⟨hn,?_⟩;have:=h _ (s.drawn.bump src) (Nat.mod_lt (M.w.draws src (s.drawn.get src)) (Nat.pos_of_ne_zero hn));simpa using this
end
def mT {α:Type}:∀(l:List α)(i:Nat),i<l.length->(l.eraseIdx i).length=l.length - 1:=λl i h=>by rw[List.length_eraseIdx,if_pos h]
theorem mi {α:Type}:∀(l:List α)(i:Nat)(x:α),l[i]? = some x->(x::l.eraseIdx i).Perm l
 |[],i,x,h=>by simp at h
 |a::l,0,x,h=>by simp at h;subst h;exact List.Perm.refl _
 |a::l,i+1,x,h=>by
  rw[List.eraseIdx_cons_succ];simp only[getElem?_cons_succ]at h;exact(List.Perm.swap a x _).trans ((mi l i x h).cons a)
theorem Cf {α:Type}:∀(n:Nat)(xs:List α)(s:Shared)(Q:List α->Shared->Prop),xs.length=n->(∀ys d,ys.Perm xs->Q ys { s with drawn:=d })->wpAny M A (drawOrder n xs) Q E s
 |0,xs,s,Q,hl,h=>by
  have:xs=[]:=List.eq_nil_of_length_eq_zero hl;subst this;exact wY (h [] s.drawn (List.Perm.refl _))
 |n+1,[],s,Q,hl,h=>by simp at hl
 |n+1,x::r,s,Q,hl,h=>by
  show wpAny M A (choose .order (x::r).length>>=λi=>match (x::r)[i]? with
   |some G=>(do return G::(←drawOrder n ((x::r).eraseIdx i)))
   |none=>unsupported "internal:drawOrder") Q E s
  refine wX (Jk (by simp) λk d hk=>?_);obtain⟨y,hy⟩:∃y,(x::r)[k]? = some y:=⟨_,vU hk⟩;rw[hy];refine wX (Cf n _ _ _ (by rw[mT _ _ hk,hl];rfl) λys d' hp=>wY (h _ _ ((hp.cons y).trans (mi _ _ _ hy))))
theorem Cg {α:Type}(next:Nat->Nat):∀(fuel k:Nat)(left:List α)(out:Array α),left.length=fuel->(pickOrder.go next fuel k left out).toList.Perm (out.toList++left)
 |0,k,left,out,hl=>by
  have:left=[]:=List.eq_nil_of_length_eq_zero hl;subst this;unfold pickOrder.go;simp
 |fuel+1,k,left,out,hl=>by
  unfold pickOrder.go;have hk:next k % left.length<left.length:=Nat.mod_lt _ (by omega);obtain⟨y,hy⟩:∃y,left[next k % left.length]? = some y:=⟨_,vU hk⟩;rw[hy];dsimp only;refine(Cg next fuel (k+1) _ _ (by rw[mT _ _ hk];omega)).trans ?_;rw[toList_push,append_assoc];exact(mi _ _ _ hy).append_left _
def DM {α:Type}(next:Nat->Nat)(xs:Array α):(pickOrder next xs).toList.Perm xs.toList:=by
 have:=Cg next xs.size 0 xs.toList #[] (by simp);simpa [pickOrder]using this
def bJ:Slot "set_iterator" "__next__" "set_iterator.__next__" :=
 .of (owner:="set_iterator") (n:="__next__") (by rw[typeLookup_type,builtinLookup_eq_fast];kernel_rfl) (by decide +kernel) (by decide +kernel) (by decide +kernel)
  (by first|exact .inl (by decide +kernel)|exact .inr (by decide +kernel)) (by rw[isSubtype_type];kernel_rfl)
def fH:entryFor table "set_iterator.__next__" = some Builtin.«set_iterator.__next__»:=entryFor_of_tree (by kernel_rfl)
def gH (a:Value):argsOk "set_iterator.__next__" ⟨[a],[]⟩:=by unfold argsOk;kernel_rfl
def lM:Slot "set_iterator" "__iter__" "set_iterator.__iter__" :=
 .of (owner:="set_iterator") (n:="__iter__") (by rw[typeLookup_type,builtinLookup_eq_fast];kernel_rfl) (by decide +kernel) (by decide +kernel) (by decide +kernel)
  (by first|exact .inl (by decide +kernel)|exact .inr (by decide +kernel)) (by rw[isSubtype_type];kernel_rfl)
def qZ:entryFor table "set_iterator.__iter__" = some Builtin.«dict_keyiterator.__iter__» :=
 entryFor_alias (id':="dict_keyiterator.__iter__") (by kernel_rfl) rfl (by decide +kernel) (by kernel_rfl)
def uc (a:Value):argsOk "set_iterator.__iter__" ⟨[a],[]⟩:=by unfold argsOk;kernel_rfl
def pY:entryFor table "set.__iter__" = some Builtin.«frozenset.__iter__» :=
 entryFor_alias (id':="frozenset.__iter__") (by kernel_rfl) rfl (by decide +kernel) (by kernel_rfl)
noncomputable abbrev ml (G:Value)(i:Nat)(S:Addr)(n M:Nat):Obj:={ cls:=.type "set_iterator",data:=.fields #[G,.int i 0,.ref S,.int n 0,.int M 0] }
section
variable {prog:Program}{w:World}{A:Around}{E:QV}{s:Shared}{it S:Addr}{i ep:Nat}{o:Obj}{es:Array (Int×Value)}{t:SetTable}
def dZ (G:s.heap.get? it=some (ml fst i S n ep)):s.TypeIs (.ref it) "set_iterator":=⟨_,G,rfl⟩
def xr {k k':Nat}{x:Value}{Q:Option Value->Shared->Prop}(G:s.heap.get? it=some (ml (.int k 0) i S es.size ep))
  (O:s.heap.get? S=some o) (hd:o.data=.set es ep t) (hf:t.fits es.size=true)
  (T:∀(U:Around)(E':QV)(M:Option (Value×Nat)->Shared->Prop),M (some (x,k')) s->wpAny (model prog w) U (setNext S k i ep) M E' s)
  (hQ:∀h',h'.get? it=some (ml (.int k' 0) (i+1) S es.size ep)->Heap.SameBut it s.heap h'->Q (some x) { s with heap:=h' }):
  wpAny (model prog w) A (pyNext (.ref it)) Q E s:=by
 unfold pyNext;refine wX (wpAny_attempt (wpAny_callSpecial?_slot (name:=Str.ofString "__next__") (dZ G) bJ
  (wpAny_call_entry bJ (dZ G) fH ?_ (gH _))))
 show wpAny _ _ (fieldsOf (.ref it)>>=_) _ _ s;refine wX (wpAny_fieldsOf G rfl ?_);show wpAny _ _ (setEntries S>>=_) _ _ s;refine wX (wpAny_setEntries_of O hd hf ?_);rw[if_neg (by simp)];show wpAny _ _ (setNext S _ _ _>>=_) _ _ s;simp only[toNat_natCast];refine wX (T _ _ _ ?_);dsimp only;refine wX (wpAny_setField_rec G (by simp) λh1 e1 b1=>?_);refine wX (wpAny_setField_rec e1 (by simp) λh2 e2 b2=>?_);exact wY ⟨x,rfl,wY (hQ h2 (by simpa [rawInt,ml]using e2) (b1.trans b2))⟩
def xu {k:Nat}{Q:Option Value->Shared->Prop}(hh:A.handled=none)(G:s.heap.get? it=some (ml (.int k 0) i S es.size ep))
  (O:s.heap.get? S=some o) (hd:o.data=.set es ep t) (hf:t.fits es.size=true)
  (U:∀(A':Around)(E':QV)(M:Option (Value×Nat)->Shared->Prop),M none s->wpAny (model prog w) A' (setNext S k i ep) M E' s)
  (hQ:∀h',Heap.ExtBut it s.heap h'->Q none { s with heap:=h' }):
  wpAny (model prog w) A (pyNext (.ref it)) Q E s:=by
 unfold pyNext;refine wX (wpAny_attempt (wpAny_callSpecial?_slot (name:=Str.ofString "__next__") (dZ G) bJ
  (wpAny_call_entry bJ (dZ G) fH ?_ (gH _))))
 show wpAny _ _ (fieldsOf (.ref it)>>=_) _ _ s;refine wX (wpAny_fieldsOf G rfl ?_);show wpAny _ _ (setEntries S>>=_) _ _ s;refine wX (wpAny_setEntries_of O hd hf ?_);rw[if_neg (by simp)];show wpAny _ _ (setNext S _ _ _>>=_) _ _ s;simp only[toNat_natCast];refine wX (U _ _ _ ?_);dsimp only;refine wX (wpAny_setField_rec G (by simp) λh1 e1 b1=>?_);refine wX ?_;simp only[newExc,newTuple];refine wX (wpAny_newObj_type ?_ (by size_fits));refine wX (m:=firstArgMember _ _) (wpAny_of_eq (a:=Value.none) (by first|rfl|(simp only[firstArgMember];rfl)) ?_);refine wpAny_newObj_type ?_ (by size_fits);simp only[raiseNew];refine wX (wpAny_handled ?_);rw[show A.in1.handled=none from hh];refine wX (wY (wpAny_throw ?_));refine wX (wpAny_isInstance (T:="StopIteration") (b:=true) ⟨_,vY _ rfl,rfl⟩ isSubtype_stop ?_);exact wY (hQ _ ((b1.extBut.push _).push _))
def ud {T:Addr}{pl:LN}{p:Nat}{x:Int×Value}{nt:Nat}{Q:Option Value->Shared->Prop}(G:s.heap.get? it=some (ml (.ref T) i S es.size ep))
  (U:s.heap.get? T=some (seqObj "tuple" (pl.map λ(p:Nat)=>Value.int p 0).toArray nt))
  (O:s.heap.get? S=some o) (hd:o.data=.set es ep t) (hf:t.fits es.size=true) (hp:pl[i]? = some p) (hx:es[p]? = some x)
  (hQ:∀h',h'.get? it=some (ml (.ref T) (i+1) S es.size ep)->Heap.SameBut it s.heap h'->Q (some x.2) { s with heap:=h' }):
  wpAny (model prog w) A (pyNext (.ref it)) Q E s:=by
 unfold pyNext;refine wX (wpAny_attempt (wpAny_callSpecial?_slot (name:=Str.ofString "__next__") (dZ G) bJ
  (wpAny_call_entry bJ (dZ G) fH ?_ (gH _))))
 show wpAny _ _ (fieldsOf (.ref it)>>=_) _ _ s;refine wX (wpAny_fieldsOf G rfl ?_);show wpAny _ _ (setEntries S>>=_) _ _ s;refine wX (wpAny_setEntries_of O hd hf ?_);rw[if_neg (by simp)];show wpAny _ _ (seqItems? (.ref T)>>=_) _ _ s;refine wX (wpAny_seqItems U rfl ?_);have M:(pl.map λ(p:Nat)=>Value.int p 0).toArray[(i:Int).toNat]? = some (.int p 0):=by simp[hp]
 dsimp only;rw[M];dsimp only;have e2:wpAny (model prog w) A.in1 (setNextDrawn S (p:Int).toNat (ep:Int).toNat) (λy s'=>y=x.2/\s'=s) (λ_ _=>False) s:=by
  unfold setNextDrawn;refine wX (wpAny_setState_of O hd hf ?_);dsimp only;rw[if_neg (by simp)];simp only[toNat_natCast,hx];exact wY ⟨rfl,rfl⟩
 refine wX (wpAny_mono e2 (λy s' hy=>?_) λ_ _ z=>z.elim);obtain⟨rfl,rfl⟩:=hy;refine wX (wpAny_setField_rec G (by simp) λh1 M b1=>?_);exact wY ⟨_,rfl,wY (hQ h1 (by simpa [rawInt,ml]using M) b1)⟩
def ue {T:Addr}{pl:LN}{nt:Nat}{Q:Option Value->Shared->Prop}(hh:A.handled=none)(G:s.heap.get? it=some (ml (.ref T) i S es.size ep))
  (O:s.heap.get? T=some (seqObj "tuple" (pl.map λ(p:Nat)=>Value.int p 0).toArray nt))
  (U:s.heap.get? S=some o) (hd:o.data=.set es ep t) (hf:t.fits es.size=true) (hp:pl[i]? = none)
  (hQ:∀h',Heap.ExtBut it s.heap h'->Q none { s with heap:=h' }):
  wpAny (model prog w) A (pyNext (.ref it)) Q E s:=by
 unfold pyNext;refine wX (wpAny_attempt (wpAny_callSpecial?_slot (name:=Str.ofString "__next__") (dZ G) bJ
  (wpAny_call_entry bJ (dZ G) fH ?_ (gH _))))
 show wpAny _ _ (fieldsOf (.ref it)>>=_) _ _ s;refine wX (wpAny_fieldsOf G rfl ?_);show wpAny _ _ (setEntries S>>=_) _ _ s;refine wX (wpAny_setEntries_of U hd hf ?_);rw[if_neg (by simp)];show wpAny _ _ (seqItems? (.ref T)>>=_) _ _ s;refine wX (wpAny_seqItems O rfl ?_);have M:(pl.map λ(p:Nat)=>Value.int p 0).toArray[(i:Int).toNat]? = none:=by simpa using hp
 dsimp only;rw[M];dsimp only;refine wX (wpAny_setField_rec G (by simp) λh0 e0 b0=>?_);refine wX (wpAny_setField_rec e0 (by simp) λh1 M b1=>?_);refine wX ?_;simp only[newExc,newTuple];refine wX (wpAny_newObj_type ?_ (by size_fits));refine wX (m:=firstArgMember _ _) (wpAny_of_eq (a:=Value.none) (by first|rfl|(simp only[firstArgMember];rfl)) ?_);refine wpAny_newObj_type ?_ (by size_fits);simp only[raiseNew];refine wX (wpAny_handled ?_);rw[show A.in1.handled=none from hh];refine wX (wY (wpAny_throw ?_));refine wX (wpAny_isInstance (T:="StopIteration") (b:=true) ⟨_,vY _ rfl,rfl⟩ isSubtype_stop ?_);exact wY (hQ _ (((b0.trans b1).extBut.push _).push _))
def yP (G:s.heap.get? it=some (ml fst i S n ep))(h:Q (.ref it) s):wpAny (model prog w) A (pyIter (.ref it)) Q E s:=by
 refine wpAny_pyIter_slot (dZ G) lM (wpAny_call_entry lM (dZ G) qZ ?_ (uc _));show wpAny _ _ (ret (.ref it)) _ _ s;exact wY ⟨_,rfl,"set_iterator",_,dZ G,bJ.lookup,h⟩
end
section
variable {prog:Program}{w:World}{A:Around}{E:QV}{s:Shared}{it S:Addr}{i k ep:Nat}{o:Obj}{es:Array (Int×Value)}{t:SetTable}
def uI (G:s.heap.get? S=some o)(hd:o.data=.set es ep t)(hf:t.fits es.size=true)(hb:w.params.followText "set-order" = true)
  (h:Q (((pickOrder (w.params.setOrder S ep) es)[i]?).map λe=>(e.2,k)) s):wpAny (model prog w) A (setNext S k i ep) Q E s:=by
 unfold setNext;refine wX (wpAny_setState_of G hd hf ?_);dsimp only;unfold setsByText;refine wX (wX (wpAny_askSetting (wY ?_)));show wpAny _ _ (if w.params.followText "set-order" = true then _ else _) _ _ _;rw[if_pos hb,if_neg (by simp)];unfold setWalk setsByText;refine wX (wX (wpAny_setState_of G hd hf ?_));dsimp only;refine wX (wX (wpAny_askSetting (wY ?_)));show wpAny _ _ (if w.params.followText "set-order" = true then _ else _) _ _ _;rw[if_pos hb];refine wX (wpAny_askSetting (wY ?_));exact wY h
def ra (G:s.heap.get? S=some o)(hd:o.data=.set es ep t)(hf:t.fits es.size=true)(hb:w.params.followText "set-order" = false)(hl:t.led=true)(hz:es.size<=1)
  (h:Q (match es[SetTable.below t.place k]?,t.place[SetTable.below t.place k]? with
   |some (_,x),some j=>some (x,j+1)
   |_,_=>none) s):wpAny (model prog w) A (setNext S k i ep) Q E s:=by
 unfold setNext;refine wX (wpAny_setState_of G hd hf ?_);dsimp only;unfold setsByText;refine wX (wX (wpAny_askSetting (wY ?_)));show wpAny _ _ (if w.params.followText "set-order" = true then _ else _) _ _ _;rw[if_neg (by rw[hb];simp)];show wpAny _ _ (if(!t.plain && decide (es.size > 1))=true then _ else _) _ _ _;rw[if_neg (by rw[PK (by omega)];simp)];show wpAny _ _ ((if(!t.led && !es.isEmpty)=true then unsupported "set:maker-not-led" else pure ())>>=_) _ _ _;rw[hl,if_neg (by simp)];refine wX (wY ?_);exact wY h
def uJ (hh:A.handled=none)(hd:o.data=.set es ep t)(hf:t.fits es.size=true)(U:S≠it)(vs:LU)(hv:vs.length=es.size)(sl:Nat->Nat)
  (hN:∀i x,vs[i]? = some x->∀(M:Around)(O:QV)(s:Shared)(G:Option (Value×Nat)->Shared->Prop),s.heap.get? S=some o->G (some (x,sl (i+1))) s->wpAny (model prog w) M (setNext S (sl i) i ep) G O s)
  (hE:∀(M:Around)(O:QV)(s:Shared)(G:Option (Value×Nat)->Shared->Prop),s.heap.get? S=some o->G none s->wpAny (model prog w) M (setNext S (sl es.size) es.size ep) G O s):
  Walks prog w A it [it,S] [it] es.size (λi v=>vs[i]? = some v) (λi h=>h.get? it=some (ml (.int (sl i) 0) i S es.size ep)/\h.get? S=some o) where
 sub:=λb hb=>by simp at hb;simp[hb]
 frame:=λ_ _ _ st hk=>⟨hk it (by simp) _ st.1,hk S (by simp) _ st.2⟩
 item:=λi s Q E hi st T=>by
  obtain⟨x,hx⟩:∃x,vs[i]? = some x:=⟨_,vU (by omega)⟩;refine xr st.1 st.2 hd hf (λM O G q=>hN i x hx M O s G st.2 q) λh' h1 h2=>?_;exact T x h' s.toks hx ⟨h1,h2.extBut S _ U st.2⟩ λb u hb e=>h2.extBut b u (λz=>hb (by simp[z])) e
 done:=λs Q E st T=>xu hh st.1 st.2 hd hf (λM O G q=>hE M O s G st.2 q) λh' h1=>T h' s.toks λb u hb e=>h1 b u (λz=>hb (by simp[z])) e
 self:=λ_ _ _ _ st T=>yP st.1 T
def AU {T:Addr}{pl:LN}{nt:Nat}(hh:A.handled=none)(hd:o.data=.set es ep t)(hf:t.fits es.size=true)(O:S≠it)(U:T≠it)(hp:pl.Perm (List.range es.size)):
  Walks prog w A it [it,S,T] [it] es.size (λi v=>(pl.map λp=>(es.getD p (0,.none)).2)[i]? = some v)
   (λi h=>h.get? it=some (ml (.ref T) i S es.size ep)/\h.get? S=some o/\h.get? T=some (seqObj "tuple" (pl.map λ(p:Nat)=>Value.int p 0).toArray nt)) where
 sub:=λb hb=>by simp at hb;simp[hb]
 frame:=λ_ _ _ st hk=>⟨hk it (by simp) _ st.1,hk S (by simp) _ st.2.1,hk T (by simp) _ st.2.2⟩
 item:=λi s Q E hi st G=>by
  have M:pl.length=es.size:=by rw[hp.length_eq,length_range]
  obtain⟨p,hx⟩:∃p,pl[i]? = some p:=⟨_,vU (by omega)⟩;have WL:p<es.size:=mem_range.mp (hp.mem_iff.mp (vL hx));have he:es[p]? = some (es.getD p (0,.none)):=by rw[getD_eq_getD_getElem?,getElem?_eq_getElem WL];rfl
  refine ud st.1 st.2.2 st.2.1 hd hf hx he λh' h1 h2=>?_;exact G _ h' s.toks (by simp[hx]) ⟨h1,h2.extBut S _ O st.2.1,h2.extBut T _ U st.2.2⟩ λb u hb e=>h2.extBut b u (λz=>hb (by simp[z])) e
 done:=λs Q E st G=>by
  have M:pl.length=es.size:=by rw[hp.length_eq,length_range]
  exact ue hh st.1 st.2.2 st.2.1 hd hf (getElem?_eq_none (by omega)) λh' h1=>G h' s.toks λb u hb e=>h1 b u (λz=>hb (by simp[z])) e
 self:=λ_ _ _ _ st G=>yP st.1 G
end
def AW {α:Type}(es:Array α)(d:α):(List.range es.size).map (λp=>es.getD p d)=es.toList:=by
 apply ext_getElem?;intro i;by_cases h:i<es.size
 ·simp[h,getD_eq_getD_getElem?]
 ·simp[h]
section
variable {prog:Program}{w:World}{A:Around}{E:QV}{s:Shared}
def uK (h:xs=#[j]):SetTable.below xs k=if j<k then 1 else 0:=by
 subst h;by_cases h:j<k
 ·simp[SetTable.below,SetTable.below.go,h]
 ·simp[SetTable.below,SetTable.below.go,h]
def FP {S:Addr}{ts:LS}{Q:QV}(hS:iS prog w s.heap S ts)
  (hQ:∀(h':Heap)(d:Drawn)(it:Addr)(vs:LU)(fp:List Addr)(St:Nat->Heap->Prop),(∀A',A'.handled=none->Walks prog w A' it fp [it] ts.length (λi v=>vs[i]? = some v) St)->St 0 h' ->
   (∀b u,s.heap.get? b=some u->h'.get? b=some u)->s.heap.objs.size<=it->(∀b∈fp,b=S∨s.heap.objs.size<=b)->vs.length=ts.length->(vs.map strOf).Perm ts->(∀v∈vs,∃x t,v=.str x t) ->
   Q (.ref it) { s with heap:=h',drawn:=d }):wpAny (model prog w) A (pyIter (.ref S)) Q E s:=by
 obtain⟨o,es,ep,t,ho,K6,hd,Ls,hp,nd,hb,hf,K8,Ii⟩:=hS;have sz:es.size=ts.length:=by rw[←hp.length_eq,vI,vG]
 have T:S<s.heap.objs.size:=vX ho;have U4:s.TypeIs (.ref S) "set":=⟨_,ho,K6.1⟩;have M:∀e∈es.toList,∃x t,e.2=.str x t:=λe he=>by
  obtain⟨⟨k,hk,_⟩,_⟩:=Ls e he;obtain⟨t,q⟩:=Value.isStrOf_shape (show Value.isStrOf k e.2=true from hk);exact⟨k,t,q⟩
 refine wpAny_pyIter_slot U4 slot_set_iter (wpAny_call_entry slot_set_iter U4 pY ?_ (PySem.F.args_set_iter_1 _));show wpAny _ _ (Builtin.Frozenset.sizeOf S>>=_) _ _ s;unfold Builtin.Frozenset.sizeOf;refine wX (wX (wpAny_setEntries_of ho hd hf (wY ?_)));unfold setDrawn setsByText;refine wX (wX (wpAny_setState_of ho hd hf ?_));dsimp only;refine wX (wX (wpAny_askSetting (wY (wY ?_))));show wpAny _ _ (if(!w.params.followText "set-order" && (!t.plain && decide (es.size > 1)))=true then _ else _) _ _ _;have U:(es.toList.map (·.2)).map strOf=es.toList.map (λe=>strOf e.2):=by rw[uP];rfl
 by_cases G:w.params.followText "set-order" = true
 ·rw[if_neg (by rw[G];simp)];refine wX (wY ?_);refine wX (wpAny_setEpoch_of ho hd hf ?_);have pp:=DM (w.params.setOrder S ep) es;have lu:((pickOrder (w.params.setOrder S ep) es).toList.map (·.2)).length=es.size:=by rw[vI,pp.length_eq,vG]
  refine wX (wpAny_newObj_type (wY ⟨_,rfl,"set_iterator",_,⟨_,vY _ rfl,rfl⟩,bJ.lookup,?_⟩));refine hQ _ s.drawn s.heap.objs.size ((pickOrder (w.params.setOrder S ep) es).toList.map (·.2)) [s.heap.objs.size,S] (λi h=>h.get? s.heap.objs.size=some (ml (.int ((λ_=>0:Nat->Nat) i:Nat) 0) i S es.size ep)/\h.get? S=some o) (λA' hA=>?_) ?_ (λb u e=>vZ _ e) (vT _) (λb hb=>?_) (lu.trans sz) ?_ ?_
  ·rw[←sz];exact uJ hA hd hf (vS T) _ lu (λ_=>0) (λi x hx A' E' s Q' h1 h2=>uI h1 hd hf G (by
    rw[vA,getElem?_toList]at hx;obtain⟨e,he,rfl⟩:=oY hx;rw[he];exact h2)) (λA' E' s Q' h1 h2=>uI h1 hd hf G (by
    rw[Array.getElem?_eq_none (by rw[←vG,pp.length_eq,vG];exact vT _)];exact h2))
  ·exact⟨vY _ rfl,vZ _ ho⟩
  ·simp only[mem_cons,not_mem_nil,or_false]at hb;rcases hb with rfl|rfl
   ·exact .inr (vT _)
   ·exact .inl rfl
  ·refine List.Perm.trans ?_ hp;rw[←U];exact(pp.map _).map _
  ·intro v hv;obtain⟨e,he,rfl⟩:=vO hv;exact M e (pp.mem_iff.mp he)
 ·rw[Bool.not_eq_true]at G;have hl:t.led=true:=by rw[K8,G];rfl
  by_cases h1:es.size<=1
  ·rw[if_neg (by rw[PK (by omega)];simp)];refine wX (wY ?_);refine wX (wpAny_setEpoch_of ho hd hf ?_);refine wX (wpAny_newObj_type (wY ⟨_,rfl,"set_iterator",_,⟨_,vY _ rfl,rfl⟩,bJ.lookup,?_⟩));have Yc:t.place.size=es.size:=by
    simp only[SetTable.fits,vC,beq_iff_eq,decide_eq_true_eq]at hf;exact hf.1
   refine hQ _ s.drawn s.heap.objs.size (es.toList.map (·.2)) [s.heap.objs.size,S] (λi h=>h.get? s.heap.objs.size=some (ml (.int ((λi=>if i=0 then 0 else t.place.getD 0 0+1:Nat->Nat) i:Nat) 0) i S es.size ep)/\h.get? S=some o) (λA' hA=>?_) ?_ (λb u e=>vZ _ e) (vT _) (λb hb=>?_) (by rw[vI,vG,sz]) (by rw[U];exact hp) ?_
   ·rw[←sz];refine uJ hA hd hf (vS T) _ (by simp) (λi=>if i=0 then 0 else t.place.getD 0 0+1) (λi x hx A' E' s Q' q1 q2=>ra q1 hd hf G hl h1 ?_) (λA' E' s Q' q1 q2=>ra q1 hd hf G hl h1 ?_)
    ·have hi:i<es.size:=by have:=(vV hx).1;simpa using this
     have WM:i=0:=by omega
     subst WM;obtain⟨j,hj⟩:∃j,t.place=#[j]:=Array.size_eq_one_iff.mp (by omega);rw[if_pos rfl,uK hj,if_neg (by omega)];rw[vA,getElem?_toList]at hx;obtain⟨e,he,rfl⟩:=oY hx;rw[he];simp only[hj]at q2 ⊢;simpa using q2
    ·by_cases h0:es.size=0
     ·have SA:t.place=#[]:=Array.eq_empty_of_size_eq_zero (by omega);have WN:es=#[]:=Array.eq_empty_of_size_eq_zero h0;rw[SA,WN];simpa using q2
     ·obtain⟨j,hj⟩:∃j,t.place=#[j]:=Array.size_eq_one_iff.mp (by omega);rw[if_neg h0,uK hj];have:t.place.getD 0 0=j:=by rw[hj];rfl
      rw[this,if_pos (by omega),Array.getElem?_eq_none (by omega)];exact q2
   ·exact⟨vY _ rfl,vZ _ ho⟩
   ·simp only[mem_cons,not_mem_nil,or_false]at hb;rcases hb with rfl|rfl
    ·exact .inr (vT _)
    ·exact .inl rfl
   ·intro v hv;obtain⟨e,he,rfl⟩:=vO hv;exact M e he
  ·have SA:t.plain=false:=Ii (by omega);rw[if_pos (by rw[G,SA,Aq (by omega)];rfl)];refine wX (Cf es.size (List.range es.size) _ _ (by simp) λpl d pp=>?_);refine wX (wpAny_newTuple ?_ (by rw[vI,pp.length_eq,length_range,sz];exact fits_of_scanBound hb));refine wX (wpAny_setEpoch_of (vZ _ ho) hd hf ?_);refine wX (wpAny_newObj_type (wY ⟨_,rfl,"set_iterator",_,⟨_,vY _ rfl,rfl⟩,bJ.lookup,?_⟩));have hsz:(s.heap.push (seqObj "tuple" (pl.map λ(p:Nat)=>Value.int p 0).toArray 0)).objs.size=s.heap.objs.size+1:=size_push' _ _;have O:((pl.map λp=>(es.getD p (0,.none)).2)).Perm (es.toList.map (·.2)):=by
    have:=(pp.map λp=>es.getD p (0,Value.none)).map (·.2);rw[AW]at this;rw[uP]at this;exact this
   refine hQ _ d _ (pl.map λp=>(es.getD p (0,.none)).2) [(s.heap.push (seqObj "tuple" (pl.map λ(p:Nat)=>Value.int p 0).toArray 0)).objs.size,S,s.heap.objs.size] (λi h=>h.get? (s.heap.push (seqObj "tuple" (pl.map λ(p:Nat)=>Value.int p 0).toArray 0)).objs.size=some (ml (.ref s.heap.objs.size) i S es.size ep)/\h.get? S=some o/\h.get? s.heap.objs.size=some (seqObj "tuple" (pl.map λ(p:Nat)=>Value.int p 0).toArray 0)) (λA' hA=>?_) ?_ (λb u e=>vZ _ (vZ _ e)) ?_ (λb hb=>?_) ?_ ?_ ?_
   ·rw[←sz];exact AU (nt:=0) hA hd hf (by show S≠(s.heap.push _).objs.size;rw[size_push'];exact vS (lt_succ_of_lt T)) (by show s.heap.objs.size≠(s.heap.push _).objs.size;rw[size_push'];exact vS (lt_succ_self _)) pp
   ·exact⟨vY _ rfl,vZ _ (vZ _ ho),vZ _ (vY _ rfl)⟩
   ·show s.heap.objs.size<=(s.heap.push _).objs.size;rw[size_push'];omega
   ·simp only[mem_cons,not_mem_nil,or_false]at hb;rcases hb with rfl|rfl|rfl
    ·refine .inr ?_;show s.heap.objs.size<=(s.heap.push _).objs.size;rw[size_push'];omega
    ·exact .inl rfl
    ·exact .inr (vT _)
   ·rw[O.length_eq,vI,vG,sz]
   ·exact((O.map strOf).trans (by rw[U])).trans hp
   ·intro v hv;obtain⟨e,he,rfl⟩:=vO (O.mem_iff.mp hv);exact M e he
end
def DN (h:ItemsOf (λi v=>vs[i]? = some v) Ap vs.length):Ap.toList=vs:=by
 apply ext_getElem?;intro i;by_cases hi:i<Ap.size
 ·have e:Ap[i]? = some Ap[i]:=getElem?_eq_getElem hi;rw[getElem?_toList,e,h.2 i _ e]
 ·rw[getElem?_eq_none (by rw[vG];omega),getElem?_eq_none (by rw[←h.1];omega)]
section
variable {prog:Program}{w:World}{A:Around}{E:QV}{s:Shared}
def yQ (hh:A.handled=none)(hS:iS prog w s.heap S ts)
  (hQ:∀s' vs,(∀b u,s.heap.get? b=some u->s'.heap.get? b=some u)->s'.gens=s.gens->s'.os=s.os->vs.length=ts.length->(vs.map strOf).Perm ts->(∀v∈vs,∃x t,v=.str x t)->Q vs s'):
  wpAny (model prog w) A (collect (.ref S)) Q E s:=by
 have G:∀(s1:Shared),iS prog w s1.heap S ts->s1.TypeIs (.ref S) "set":=λs1 h=>by
  obtain⟨o,_,_,_,ho,K6,_⟩:=h;exact⟨o,ho,K6.1⟩
 have Ay:S<s.heap.objs.size:=by obtain⟨o,_,_,_,ho,_⟩:=hS;exact vX ho
 have T:ts.length<scanBound:=by obtain⟨_,_,_,_,_,_,_,_,_,_,h,_⟩:=hS;exact h
 unfold collect;refine wX (wpAny_runValue (codeAny_builtin PySem.F.entry_proto_collect ?_));rw[Around.under_plainId PySem.F.plain_proto_collect _];show wpAny _ A.in1 (newList []>>=λl=>again (.builtin "list.__iadd__" ⟨[l,.ref S],[]⟩)) _ _ s;refine wX (wpAny_newObj_type ?_);refine wY ⟨plainId_quiet PySem.F.plain_list_iadd _,codeAny_builtin PySem.F.entry_list_iadd ?_⟩;rw[Around.under_plainId PySem.F.plain_list_iadd _];show wpAny _ A.in1 (Builtin.List.listExtendWith (.ref s.heap.objs.size) (.ref S) (.ref s.heap.objs.size)) _ _ _;unfold Builtin.List.listExtendWith;have U:iS prog w (s.heap.push { cls:=.type "list",data:=.seq ([]:LU).toArray }) S ts:=hS.at λo e=>vZ _ e;refine wX (wpAny_typeOf (G _ U) ?_);have NB:s.heap.objs.size≠S:=ne_of_gt Ay;have h1:Builtin.List.listSameRef (.ref s.heap.objs.size) (.ref S)=false:=by simp[Builtin.List.listSameRef,NB]
 have h2:(Value.type "set" == Value.type "list")=false:=by decide
 have h3:(Value.type "set" == Value.type "tuple")=false:=by decide
 simp only[h1,h2,h3,Bool.or_false,uV,if_false];refine wX (FP (s:={ s with heap:=s.heap.push { cls:=.type "list",data:=.seq ([]:LU).toArray } }) U λh' d it vs fp St W EF hk tS hfp Nw hperm hstr=>?_);have Lu:iS prog w h' S ts:=U.at λo e=>hk _ _ e;refine wX (wpAny_holding ?_);unfold Builtin.List.listLengthHint;refine wX (wpAny_specialOf (G _ Lu) PySem.F.slot_set_len.lookup ?_);wp_delta;refine wX (wpAny_isInstance (G _ Lu) sub_set_self ?_);show wpAny _ A.in1 (typeOf (Value.ref S)>>=_) _ _ _;refine wX (wpAny_typeOf (G _ Lu) ?_);refine wY ?_;rw[if_pos (by decide)];refine wX (wpAny_rule ?_);refine wX ?_;have M:(s.heap.push { cls:=.type "list",data:=.seq ([]:LU).toArray }).objs.size=s.heap.objs.size+1:=size_push' _ _;have U5:h'.get? s.heap.objs.size=some { cls:=.type "list",data:=.seq ([]:LU).toArray }:=hk _ _ (vY _ rfl);show wpAny _ A.in1 (updateSeq s.heap.objs.size (·.push .none)>>=λ_=>updateSeq s.heap.objs.size (·.pop)) _ _ _;refine wX (wpAny_updateSeq U5 rfl ?_);have U6:=Heap.get?_update_self (Obj.mapSeq (·.push Value.none)) U5 rfl;refine wpAny_updateSeq U6 rfl ?_;have WO:=Heap.get?_update_self (Obj.mapSeq (·.pop)) U6 rfl;have QR:s.heap.objs.size∉fp:=λhm=>by
  rcases hfp _ hm with z|z
  ·exact NB z
  ·rw[M]at z;exact absurd z (Nat.not_succ_le_self _)
 have Az:∀b u,b≠s.heap.objs.size->h'.get? b=some u ->
   ((h'.update s.heap.objs.size (Obj.mapSeq (·.push Value.none))).update s.heap.objs.size (Obj.mapSeq (·.pop))).get? b=some u :=
  λb u hb e=>(Heap.get?_update_other _ _ (Ne.symm hb)).trans ((Heap.get?_update_other _ _ (Ne.symm hb)).trans e)
 have W0:=W A.in1 hh;refine wY ⟨plainId_quiet plain_extend_loop _,codeAny_extend_loopS W0.toS (fits_of_scanBound T) _ QR _ ts.length 0 _ _ _ rfl (uN _)
  (W0.frame 0 _ _ EF λb hb u e=>Az b u (λz=>QR (z ▸ hb)) e) WO (ItemsOf.nil _) λs' acc' c' hm hL' O=>?_⟩
 show wpAny _ A (load s.heap.objs.size>>=_) _ _ s';refine wX (wpAny_load hL' ?_);rw[←Nw]at O;refine wY ?_;show Q acc'.toList s';rw[DN O];refine hQ s' vs (λb u e=>hm.heap b u (λhb=>?_) (Az b u (vS (vX e)) (hk _ _ (vZ _ e)))) hm.gens hm.os Nw hperm hstr;have hl:=vX e;simp only[mem_cons,not_mem_nil,or_false]at hb;rcases hb with rfl|rfl
 ·exact absurd hl (Nat.lt_irrefl _)
 ·rw[M]at tS;exact absurd (vQ hl (Nat.le_of_succ_le tS)) (Nat.lt_irrefl _)
def AX (hh:A.handled=none)(hS:iS prog w s.heap S ts)(Oc:ts.length<64)
  (hQ:∀(s1:Shared)(h':Heap)(a:Addr)(out:AV)(n:Nat)(G:LS),(∀b u,s.heap.get? b=some u->s1.heap.get? b=some u)->s1.os=s.os->s1.gens=s.gens->(∀b u,s1.heap.get? b=some u->h'.get? b=some u)->s1.heap.objs.size<=a->h'.get? a=some (seqObj "list" out n) ->
   StrsAre out.toList G->G.Perm ts->sortedS G=true->Q (.ref a) { s1 with heap:=h' }):
  wpAny (model prog w) A (call (.builtin "sorted") [.ref S]) Q E s:=by
 refine Calls.call_function_entry kind_sorted plain_sorted entry_sorted (args_sorted1 _) ?_;unfold Builtin.«sorted»;refine wX (m:=checkCount "sorted" 1 1 _) (wY ?_);refine wX (yQ (A:=A.in1) (by exact hh) hS λs1 vs hk hg hos U M hstr=>?_);have O:StrsAre vs (vs.map strOf):=strsAre_map vs hstr;refine wX (wpAny_newList ?_ (by rw[U,sizeLine_eq];omega));have T:(s1.heap.push (seqObj "list" vs.toArray 0)).get? s1.heap.objs.size=some (seqObj "list" vs.toArray 0):=vY _ rfl;show wpAny _ _ _ _ _ { s1 with heap:=s1.heap.push (seqObj "list" vs.toArray 0) };refine wX (wpAny_holding (wpAny_call_entry slot_list_sort ⟨_,T,rfl⟩ entry_list_sort (list_sort_treeK strKind_oneLt T O.keysOf (λv₁ v₂ ax e=>keyKind_strs (by rw[←e];exact O)) (by rw[U];exact Oc) λN6 a1 a2=>⟨_,rfl,?_⟩) (args_list_sort _)));obtain⟨G,b1,b2,b3⟩:=sorted_out_str O a1 a2;obtain⟨e,he⟩:=sortedHeap_at (out:=(arrOf N6).map (·.2)) T;refine wY ⟨_,rfl,hQ s1 _ _ _ e G hk hos hg (λb u q=>?_) (vT _) he b1 (b2.trans M) b3⟩;have hl:=vX q;rw[sortedHeap_old (vS hl) (by rw[size_push'];exact lt_succ_of_lt hl)];exact vZ _ q
end
end DL
namespace DL
open PySem PySem.Spec PyProof.Rows L2
def xw (a b:Str):Prop:=¬b.cps.toList<a.cps.toList
def Ch:ltCps b.cps.toList a.cps.toList=false↔xw a b:=by rw[ltCps_eq,decide_eq_false_iff_not];rfl
def uL (h:xw a b)(k:xw b c):xw a c:=by
 unfold xw at *;exact not_lt.mpr (le_trans (not_lt.mp h) (not_lt.mp k))
def FQ (h:xw a b)(k:xw b a):a=b:=by
 have e:a.cps.toList=b.cps.toList:=le_antisymm (not_lt.mp h) (not_lt.mp k);obtain⟨a⟩:=a;obtain⟨b⟩:=b;have:a=b:=toList_inj.mp e;rw[this]
noncomputable def AY (x:Str):LS->LS
 |[]=>[x]
 |y::r=>if ltCps y.cps.toList x.cps.toList then y::AY x r else x::y::r
noncomputable def kH (l:LS):LS:=l.foldr AY []
theorem o5 (x:Str):∀l,(AY x l).Perm (x::l)
 |[]=>List.Perm.refl _
 |y::r=>by
  unfold AY;split
  ·exact((o5 x r).cons y).trans (List.Perm.swap x y r)
  ·exact List.Perm.refl _
theorem gd:∀l,(kH l).Perm l
 |[]=>List.Perm.refl _
 |x::l=>(o5 x (kH l)).trans ((gd l).cons x)
theorem uM (x:Str):∀l,l.Pairwise xw->(AY x l).Pairwise xw
 |[],_=>by simp[AY]
 |y::r,h=>by
  obtain⟨h1,h2⟩:=pairwise_cons.mp h;unfold AY;split
  ·rename_i hl;refine pairwise_cons.mpr ⟨λz hz=>?_,uM x r h2⟩;rcases vP ((o5 x r).mem_iff.mp hz)with rfl|hz
   ·rw[ltCps_eq,decide_eq_true_eq]at hl;exact λk=>lt_irrefl _ (lt_trans hl k)
   ·exact h1 z hz
  ·rename_i hl;rw[Bool.not_eq_true]at hl;have G:xw x y:=Ch.mp hl;refine pairwise_cons.mpr ⟨λz hz=>?_,h⟩;rcases vP hz with rfl|hz
   ·exact G
   ·exact uL G (h1 z hz)
theorem rb:∀l,(kH l).Pairwise xw
 |[]=>List.Pairwise.nil
 |x::l=>uM x _ (rb l)
theorem pi:∀(l:LS)(p:Str),risingS p l=true->(p::l).Pairwise xw
 |[],p,_=>List.pairwise_singleton _ _
 |x::r,p,h=>by
  have h':(!ltCps x.cps.toList p.cps.toList && risingS x r)=true:=h;rw[vC]at h';have G:xw p x:=Ch.mp (by simpa using h'.1);have M:=pi r x h'.2;refine pairwise_cons.mpr ⟨λz hz=>?_,M⟩;rcases vP hz with rfl|hz
  ·exact G
  ·exact uL G ((pairwise_cons.mp M).1 z hz)
theorem yR:∀(l:LS),sortedS l=true->l.Pairwise xw
 |[],_=>List.Pairwise.nil
 |x::r,h=>pi r x h
def yS (a:Str):xw a a:=lt_irrefl _
theorem rd:∀(l1 l2:LS),l1.Perm l2->l1.Pairwise xw->l2.Pairwise xw->l1=l2
 |[],l2,p,_,_=>(nil_perm.mp p).symm
 |x::O,[],p,_,_=>absurd p.length_eq (by simp)
 |x::O,y::T,p,h1,h2=>by
  have G:xw x y:=by
   rcases vP (p.mem_iff.mpr (mX ..))with z|z
   ·rw[z];exact yS _
   ·exact(pairwise_cons.mp h1).1 y z
  have M:xw y x:=by
   rcases vP (p.mem_iff.mp (mX ..))with z|z
   ·rw[z];exact yS _
   ·exact(pairwise_cons.mp h2).1 x z
  have e:=FQ G M;subst e;rw[rd O T (List.Perm.cons_inv p) (pairwise_cons.mp h1).2 (pairwise_cons.mp h2).2]
def DO (p:l'.Perm l)(h:sortedS l'=true):l'=kH l:=rd _ _ (p.trans (gd l).symm) (yR _ h) (rb l)
section
variable {X:Cx}
noncomputable def yT (X:Cx)(S:Addr)(G:LS):HO:=.ext λh=>iS X.prog X.w h S G
def uO (I:Inv X ah σ H s)(k:∀b u,s.heap.get? b=some u->s1.heap.get? b=some u)(G:s1.os=s.os)(M:s1.gens=s.gens):Inv X ah σ H s1:=by
 have O:=I.step (g':=s.gens) (d':=s1.drawn) (t':=s1.toks) (h':=s1.heap) (H':=H) (ch:=[]) (λ_ z=>nomatch z) (λb o _ _ _ e _=>k b o e) (λb o _ _ _ e _=>⟨o.slots,k b o e⟩) (λ_ _ _ _ n=>n)
  (λb o _ e=>⟨o,k b o e⟩) (λ_ _ e=>e) (λ_ _ _ e=>e) (λ_ _ e=>e) (λm hm=>?_) (I.hok.kept k) I.bare
 ·obtain⟨h1,g1,d1,U,o1⟩:=s1;cases G;cases M
  exact O
 ·obtain⟨o,es,T,G,r⟩:=hm;exact⟨o,es,T,k _ o G,r⟩
def pj (hc:X.calm=true):c8 X (.type "set") (λxs H Q=>∃p ys ss,xs=[.ref p]/\gT X.K H p ys/\(∀its,b7 ys its->StrsAre its ss)/\ss.length<4000/\∀S,H S=none->Q (.ref S) (upd H S (yT X S (ga ss)))):=by
 intro ah s σ H xs us Q I r h;obtain⟨p,ys,ss,rfl,hq,hs,T,q⟩:=h;obtain⟨u,rfl,U⟩:=jX r;cases U
 obtain⟨its,r',pl,hz⟩:=I.list hq;have G:=hs its r';have M:its.length=ss.length:=by rw[←G.strs,vI]
 refine qY (I.ok.hd hc) pl.isList (by simpa using G) (by simp only[vH];unfold scanBound;omega) λh' tk O hk=>?_;refine⟨.ref s.heap.objs.size,_,I.laid (t':=tk) (λb u e=>hk b u (vX e) e) (vT _) ?_,rfl,q _ (I.hok.fresh (vT _))⟩;refine⟨O,?_,λh1 h2 z k=>z.at k⟩;obtain⟨o,_,_,_,ho,_⟩:=O;exact⟨o,ho⟩
def pZ (hc:X.calm=true):c8 X (.builtin "sorted") (λxs H Q=>∃S M,xs=[.ref S]/\H S=some (yT X S M)/\M.length<64/\∀l,H l=none->Q (.ref l) (upd H l (.lst ((kH M).map .str)))):=by
 intro ah s σ H xs us Q I r h;obtain⟨S,M,rfl,hS,O,q⟩:=h;obtain⟨u,rfl,rx⟩:=jX r;cases rx
 have hT:iS X.prog X.w s.heap S M:=(I.hok S _ hS).1;refine AX (I.ok.hd hc) hT O λs1 h' a out n ss' k1 ho hg k2 hp he T G U=>?_;have e:=DO G U;subst e;have I1:=uO I k1 ho hg;have hv:∀ {its:LU}{zs:LS},StrsAre its zs->b7 (zs.map V.str) its:=λz=>by
  induction z with
  |nil=>exact .nil
  |cons x t _ ih=>exact .cons ⟨t,rfl⟩ ih
 refine⟨.ref a,_,I1.laid (t':=s1.toks) k2 hp (show bR X.prog X.w _ h' _ (.lst _)from ⟨?_,out.toList,n,hv T,he⟩),rfl,q _ (I1.hok.fresh hp)⟩;rw[vI,(gd M).length_eq,sizeLine_eq];omega
end
@[simp] def fJ:D->OB
 |.lst ds=>(jZ ds).bind λss=>if ss.length<64 then some (.lst ((kH (ga ss)).map .str),true)else none
 |_=>none
@[simp] def mU:D->OB
 |.lst ds=>(jZ ds).bind λss=>if ss.length<4000 then some (.int ((ga ss).length:Nat),false)else none
 |_=>none
def yU:bootBuiltins "sorted" = some (.builtin "sorted"):=by decide +kernel
def Lg:bootBuiltins "set" = some (.type "set"):=by decide +kernel
theorem re {K:Frag}{N:Hp}:∀(zs:LS),IsL K N (zs.map V.str) (zs.map D.str)
 |[]=>.nil
 |z::zs=>.cons (.str z) (re zs)
section
variable {X:Cx}{e:Expr}{pos pos2 p p2:Pos}
def mm (hc:X.calm=true)(m1:X.mg "sorted" = none)(m2:X.mg "set" = none)(he:JE X e f)(g1:Gl X "sorted":=by rfl)(g2:Gl X "set":=by rfl)
  (h1:starEach [e] X.env=(false,eval e X.env)::starEach [] X.env:=by rfl):JE X (.Call (.Name "sorted" p) [.Call (.Name "set" p2) [e] [] pos2] [] pos) (f1 fJ f):=by
 refine PE.to (qC (pZ hc) g1 m1 yU (gF (ou (pj hc) g2 m2 Lg (gF he je h1) (he:=h1)) je)) λσ H Q q=>?_;obtain⟨B,ρ,d',bb,sB,r,G,q⟩:=q;obtain⟨T,ex,G⟩:=oX G;refine⟨B,ρ,T.1,T.2,sB,r,ex,λv H1 N1 O i1 fr=>?_⟩;obtain⟨xd,xb⟩:=T;cases i1<;>try (simp[fJ]at G;done)
 rename_i l0 vs ds h hl;simp only[fJ]at G;obtain⟨ss,ez,G⟩:=oX G;split at G
 ·rename_i U;cases G
  refine⟨_,_,ss,rfl,O.nh.seq h,λits r'=>mQ r' hl ez,by omega,λS hS=>⟨S,_,rfl,aB,lt_of_le_of_lt (qX ss) U,λl M=>?_⟩⟩;have x2:=Ext.laid (o:=yT X S (ga ss)) O.nh hS;have x3:=Ext.laid (o:=.lst ((kH (ga ss)).map V.str)) x2.nh M;have WQ:H l=none:=((O.trans x2).hh).free M;exact q _ _ _ ((O.trans x2).trans x3) (.lst (gT.of aB) (re _)) λ_=>⟨_,_,_,rfl,rfl,WQ,aB,re _⟩
 ·cases G
end
end DL
namespace DL
open PySem PySem.Spec PySem.W PyProof.Rows
inductive Run (n:Nat)(lt:Nat->Nat->Bool){α:Type}:KasT α->α->Prop where
 |ret (a:α):Run n lt (.ret a) a
 |ask {i j:Nat}{k:Bool->KasT α}{a:α}(hi:i<n) (hj:j<n) (h:Run n lt (k (lt i j)) a):Run n lt (.ask i j k) a
def Run.bind {n:Nat}{lt:Nat->Nat->Bool}{α G:Type}{t:KasT α}{f:α->KasT G}{a:α}{b:G}(h:Run n lt t a)(k:Run n lt (f a) b):Run n lt (t.bind f) b:=by
 induction h with
 |ret a=>exact k
 |ask hi hj _ M=>exact .ask hi hj (M k)
def Run.wp {n:Nat}{lt:Nat->Nat->Bool}{α:Type}{G:Nat->Nat->(Bool->Shared->Prop)->Shared->Prop}{Q:α->Shared->Prop}{t:KasT α}{a:α}(J:Shared->Prop)
  (hc:∀i j C s,i<n->j<n->J s->(∀s',J s'->C (lt i j) s')->G i j C s) (h:Run n lt t a):∀ {s:Shared},J s->(∀s',J s'->Q a s')->t.kasWp G Q s:=by
 induction h with
 |ret a=>intro s M O;exact O s M
 |ask hi hj _ U=>intro s M O;exact hc _ _ _ _ hi hj M λs' T=>U T O
section
variable {n:Nat}{rk:Nat->Int}
noncomputable abbrev rf (rk:Nat->Int)(i j:Nat):Bool:=decide (rk i<rk j)
noncomputable def cy (rk:Nat->Int)(p:Array Nat)(k:Nat):Int:=rk (p.getD k 0)
structure qh (n:Nat)(p:Array Nat):Prop where
 size:p.size=n
 perm:p.toList.Perm (List.range n)
def qh.lt {p:Array Nat}(h:qh n p){k:Nat}(hk:k<n):p.getD k 0<n:=by
 have G:k<p.size:=by rw[h.size];exact hk
 have:p.getD k 0=p[k]:=by rw[getD_eq_getD_getElem?,getElem?_eq_getElem G];rfl
 rw[this];exact mem_range.mp (h.perm.mem_iff.mp (by simp))
def qh.rev {p:Array Nat}(h:qh n p)(i j:Nat):qh n (kas_rev p i j) :=
 ⟨(mirror_size _ _ _ _).trans h.size,(Array.perm_iff_toList_perm.mp (mirror_perm p i j _)).trans h.perm⟩
def qh.bub {p:Array Nat}(h:qh n p)(k d:Nat):qh n (bubble p k d) :=
 ⟨(bubble_size _ _ _).trans h.size,(Array.perm_iff_toList_perm.mp (bubble_perm p k d)).trans h.perm⟩
def xx {p:Array Nat}{i j:Nat}(hj:j<=p.size)(k:Nat):cy rk (kas_rev p i j) k=if i<=k/\k<j then cy rk p (i+j - 1 - k)else cy rk p k:=by
 unfold cy kas_rev;rw[getD_eq_getD_getElem?,getElem?_mirror_all hj];split<;>rw[getD_eq_getD_getElem?]
def FR {p:Array Nat}{G d:Nat}(hs:G<p.size)(hd:d<=G)(k:Nat):cy rk (bubble p G d) k=if k=G - d then cy rk p G else if G - d<k/\k<=G then cy rk p (k - 1)else cy rk p k:=by
 unfold cy;simp only[getD_eq_getD_getElem?];rw[getElem?_bubble hs d hd];repeat' split
 all_goals rfl
def Up (rk:Nat->Int)(p:Array Nat)(m:Nat):Prop:=∀i j,i<=j->j<m->cy rk p i<=cy rk p j
def xy (rk:Nat->Int)(p:Array Nat)(m:Nat):Prop:=∀i j,i<=j->j<m->cy rk p j<=cy rk p i
def M9 (p:Array Nat):Up rk p 1:=λi j h1 h2=>by
 have:i=j:=by omega
 subst this;exact le_refl _
theorem xz {p:Array Nat}(h:qh n p){r:Nat}(hr:r<=n):∀(f m:Nat),r - m=f->1<=m->m<=r->Up rk p m->∃G,Run n (rf rk) (kas_asc p f m) G/\m<=G/\G<=r/\Up rk p G/\(G<r->cy rk p G<cy rk p (G - 1))
 |0,m,hf,h1,hm,hu=>⟨m,.ret m,vT _,hm,hu,λz=>by omega⟩
 |f+1,m,hf,h1,hm,hu=>by
  have T:=h.lt (k:=m) (by omega);have U:=h.lt (k:=m - 1) (by omega);by_cases hc:cy rk p m<cy rk p (m - 1)
  ·refine⟨m,.ask T U ?_,vT _,hm,hu,λ_=>hc⟩;have:rf rk (p.getD m 0) (p.getD (m - 1) 0)=true:=Aq hc;rw[this,if_pos rfl];exact .ret m
  ·have M:Up rk p (m+1):=λi j O hj=>by
    by_cases e:j=m
    ·subst e;by_cases e2:i=j
     ·subst e2;exact le_refl _
     ·have:=hu i (j - 1) (by omega) (by omega);omega
    ·exact hu i j O (by omega)
   obtain⟨G,q1,q2,q3,q4,q5⟩:=xz h hr f (m+1) (by omega) (by omega) (by omega) M;refine⟨G,.ask T U ?_,by omega,q3,q4,q5⟩;have:rf rk (p.getD m 0) (p.getD (m - 1) 0)=false:=PK hc;rw[this,if_neg uX];exact q1
def Jl (rk:Nat->Int)(p:Array Nat)(m q:Nat):Prop:=q+1<=m/\∀k,m - (q+1)<=k->k<m->cy rk p k=cy rk p (m - 1)
def yV {p:Array Nat}{m q:Nat}(hs:m<=p.size)(hf:Jl rk p m q)(k:Nat):cy rk (kas_rev p (m - (q+1)) m) k=cy rk p k:=by
 rw[xx hs];split
 ·rename_i hk;have h0:=hf.1;rw[hf.2 k hk.1 hk.2,hf.2 _ (by omega) (by omega)]
 ·rfl
def Ci {p G:Array Nat}{m:Nat}(e:∀k,cy rk G k=cy rk p k)(h:xy rk p m):xy rk G m:=λi j h1 h2=>by rw[e,e];exact h i j h1 h2
def rg (p:Array Nat){m:Nat}(h:1<=m):Jl rk p m 0:=⟨h,λk h1 h2=>by
 have:k=m - 1:=by omega
 rw[this]⟩
theorem mV {r:Nat}(hr:r<=n):∀(f:Nat)(p:Array Nat)(m q:Nat),qh n p->r - m=f->1<=m->m<=r->xy rk p m->Jl rk p m q->∃G M U,Run n (rf rk) (kas_desc f p m q) (G,M,U)/\qh n G/\m<=M/\M<=r/\xy rk G M/\Jl rk G M U
 |0,p,m,q,h,hf,h1,hm,hd,hq=>⟨p,m,q,.ret _,h,vT _,hm,hd,hq⟩
 |f+1,p,m,q,h,hf,h1,hm,hd,hq=>by
  have a1:=h.lt (k:=m) (by omega);have a2:=h.lt (k:=m - 1) (by omega);have step:∀G:Array Nat,(∀k,cy rk G k=cy rk p k)->cy rk p m<=cy rk p (m - 1)->xy rk G (m+1):=λG e K7 i j hij hj=>by
   rw[e,e];by_cases z:j=m
   ·subst z;by_cases z2:i=j
    ·subst z2;exact le_refl _
    ·have:=hd i (j - 1) (by omega) (by omega);omega
   ·exact hd i j hij (by omega)
  by_cases hc:cy rk p m<cy rk p (m - 1)
  ·have O:rf rk (p.getD m 0) (p.getD (m - 1) 0)=true:=Aq hc;by_cases hq0:q > 0
   ·have e:=yV (p:=p) (by rw[h.size];omega) hq;obtain⟨G,M,U,g1,g2,g3,g4,g5,g6⟩:=mV hr f (kas_rev p (m - (q+1)) m) (m+1) 0 (h.rev _ _) (by omega) (by omega) (by omega) (step _ e (by omega)) (rg _ (by omega));refine⟨G,M,U,.ask a1 a2 ?_,g2,by omega,g4,g5,g6⟩;rw[O,if_pos rfl,if_pos hq0];exact g1
   ·obtain⟨G,M,U,g1,g2,g3,g4,g5,g6⟩:=mV hr f p (m+1) 0 h (by omega) (by omega) (by omega) (step _ (λ_=>rfl) (by omega)) (rg _ (by omega));refine⟨G,M,U,.ask a1 a2 ?_,g2,by omega,g4,g5,g6⟩;rw[O,if_pos rfl,if_neg hq0];exact g1
  ·have O:rf rk (p.getD m 0) (p.getD (m - 1) 0)=false:=PK hc;by_cases Od:cy rk p (m - 1)<cy rk p m
   ·have T:rf rk (p.getD (m - 1) 0) (p.getD m 0)=true:=Aq Od;refine⟨p,m,q,.ask a1 a2 ?_,h,vT _,hm,hd,hq⟩;rw[O,if_neg uX];refine .ask a2 a1 ?_;rw[T,if_pos rfl];exact .ret _
   ·have T:rf rk (p.getD (m - 1) 0) (p.getD m 0)=false:=PK Od;have he:cy rk p m=cy rk p (m - 1):=by omega
    obtain⟨G,M,U,g1,g2,g3,g4,g5,g6⟩:=mV hr f p (m+1) (q+1) h (by omega) (by omega) (by omega) (step _ (λ_=>rfl) (by omega)) ⟨by have:=hq.1;omega,λk k1 k2=>by
     rw[Nat.add_sub_cancel];by_cases z:k=m
     ·rw[z]
     ·rw[hq.2 k (by omega) (by omega),he]⟩
    refine⟨G,M,U,.ask a1 a2 ?_,g2,by omega,g4,g5,g6⟩;rw[O,if_neg uX];refine .ask a2 a1 ?_;rw[T,if_neg uX];exact g1
def yW {r:Nat}(O:r<=n){p:Array Nat}(h:qh n p){m:Nat}(h1:1<=m)(hm:m<=r)(hd:xy rk p m):∃G M,Run n (rf rk) (kas_tail3 m r p) (G,M)/\qh n M/\1<=G/\G<=r/\Up rk M G:=by
 have hu:Up rk (kas_rev p 0 m) m:=λi j T hj=>by
  rw[xx (by rw[h.size];omega),xx (by rw[h.size];omega),if_pos (by omega),if_pos (by omega)];exact hd _ _ (by omega) (by omega)
 obtain⟨G,U,q2,q3,q4,_⟩:=xz (h.rev 0 m) O (r - m) m rfl h1 hm hu;exact⟨G,_,U.bind (.ret _),h.rev 0 m,by omega,q3,q4⟩
def yX {r:Nat}(O:r<=n){p:Array Nat}(h:qh n p){m:Nat}(hm:m+1<=r)(hd:xy rk p (m+1)):∃G M,Run n (rf rk) (kas_descPart m r p) (G,M)/\qh n M/\1<=G/\G<=r/\Up rk M G:=by
 obtain⟨p1,m1,U,g1,T,g3,g4,g5,g6⟩:=mV O (r - (m+1)) p (m+1) 0 h rfl (by omega) hm hd (rg _ (by omega));by_cases hq:U > 0
 ·obtain⟨G,M,k1,k2,k3,k4,k5⟩:=yW O (T.rev (m1 - (U+1)) m1) (m:=m1) (by omega) g4 (Ci (yV (by rw[T.size];omega) g6) g5);exact⟨G,M,g1.bind (by dsimp only;rw[if_pos hq];exact k1),k2,k3,k4,k5⟩
 ·obtain⟨G,M,k1,k2,k3,k4,k5⟩:=yW O T (m:=m1) (by omega) g4 g5;exact⟨G,M,g1.bind (by dsimp only;rw[if_neg hq];exact k1),k2,k3,k4,k5⟩
def DP {p:Array Nat}(h:qh n p)(hn:1<=n):∃M O,Run n (rf rk) (kas_count n p) (M,O)/\qh n O/\1<=M/\M<=n/\Up rk O M:=by
 obtain⟨m,q1,q2,q3,q4,q5⟩:=xz h (vT n) (n - 1) 1 rfl (vT 1) hn (M9 (rk:=rk) p);by_cases e:m=n
 ·exact⟨m,p,q1.bind (by rw[if_pos (by simp[e])];exact .ret _),h,q2,q3,q4⟩
 ·have U:=q5 (by omega);have e1:¬(m == n)=true:=by simp[e]
  by_cases T:m > 1
  ·by_cases hc:cy rk p 0<cy rk p (m - 1)
   ·refine⟨m,p,q1.bind ?_,h,q2,q3,q4⟩;rw[if_neg e1,if_pos T];refine .ask (h.lt (by omega)) (h.lt (by omega)) ?_;have:rf rk (p.getD 0 0) (p.getD (m - 1) 0)=true:=Aq hc;rw[this,if_pos rfl];exact .ret _
   ·have G:∀k,k<m->cy rk p k=cy rk p 0:=λk hk=>by
     have z1:=q4 0 k (by omega) hk;have z2:=q4 k (m - 1) (by omega) (by omega);omega
    have er:∀k,cy rk (kas_rev p 0 m) k=cy rk p k:=λk=>by
     rw[xx (by rw[h.size];omega)];split
     ·rename_i z;rw[G _ (by omega),G k z.2]
     ·rfl
    have hd:xy rk p (m+1):=λi j hij hj=>by
     by_cases z:j=m
     ·subst z;by_cases z2:i=j
      ·subst z2;exact le_refl _
      ·rw[G i (by omega)];rw[G (j - 1) (by omega)]at U;omega
     ·rw[G i (by omega),G j (by omega)];exact le_refl _
    obtain⟨M,O,k1,k2,k3,k4,k5⟩:=yX (vT n) (h.rev 0 m) (m:=m) (by omega) (Ci er hd);refine⟨M,O,q1.bind ?_,k2,k3,k4,k5⟩;rw[if_neg e1,if_pos T];refine .ask (h.lt (by omega)) (h.lt (by omega)) ?_;have:rf rk (p.getD 0 0) (p.getD (m - 1) 0)=false:=PK hc;rw[this,if_neg uX];exact k1
  ·have em:m=1:=by omega
   subst em;have hd:xy rk p 2:=λi j hij hj=>by
    by_cases z2:i=j
    ·subst z2;exact le_refl _
    ·have:i=0:=by omega
     have:j=1:=by omega
     subst_vars;have:=U;simp at this;omega
   obtain⟨M,O,k1,k2,k3,k4,k5⟩:=yX (vT n) h (m:=1) (by omega) hd;refine⟨M,O,q1.bind ?_,k2,k3,k4,k5⟩;rw[if_neg e1,if_neg T];exact k1
theorem o6 {p:Array Nat}(h:qh n p){k:Nat}(hk:k<n)(hu:Up rk p k):∀(f l r:Nat),r - l<=f->l<=r->r<=k->(∀i,i<l->cy rk p i<=cy rk p k)->(∀i,r<=i->i<k->cy rk p k<cy rk p i) ->
  ∃G,Run n (rf rk) (kas_place p k f l r) G/\G<=k/\(∀i,i<G->cy rk p i<=cy rk p k)/\(∀i,G<=i->i<k->cy rk p k<cy rk p i)
 |0,l,r,hf,hl,hr,h1,h2=>⟨l,.ret l,by omega,h1,λi a b=>h2 i (by omega) b⟩
 |f+1,l,r,hf,hl,hr,h1,h2=>by
  by_cases M:l ≥ r
  ·refine⟨l,?_,by omega,h1,λi a b=>h2 i (by omega) b⟩;unfold kas_place;rw[if_pos M];exact .ret l
  ·by_cases hc:cy rk p k<cy rk p ((l+r) / 2)
   ·obtain⟨G,O,T,U,q4⟩:=o6 h hk hu f l ((l+r) / 2) (by omega) (by omega) (by omega) h1 λi a b=>by
     have:=hu ((l+r) / 2) i a b;omega
    refine⟨G,?_,T,U,q4⟩;unfold kas_place;rw[if_neg M];refine .ask (h.lt (by omega)) (h.lt (by omega)) ?_;have:rf rk (p.getD k 0) (p.getD ((l+r) / 2) 0)=true:=Aq hc;rw[this,if_pos rfl];exact O
   ·obtain⟨G,O,T,U,q4⟩:=o6 h hk hu f ((l+r) / 2+1) r (by omega) (by omega) hr (λi a=>by
     have:=hu i ((l+r) / 2) (by omega) (by omega);omega) h2
    refine⟨G,?_,T,U,q4⟩;unfold kas_place;rw[if_neg M];refine .ask (h.lt (by omega)) (h.lt (by omega)) ?_;have:rf rk (p.getD k 0) (p.getD ((l+r) / 2) 0)=false:=PK hc;rw[this,if_neg uX];exact O
theorem Cj:∀(f:Nat)(p:Array Nat)(k:Nat),qh n p->n - k=f->k<=n->Up rk p k->∃G,Run n (rf rk) (kas_bin f p k) G/\qh n G/\Up rk G n
 |0,p,k,h,hf,hk,hu=>⟨p,.ret p,h,(show k=n by omega) ▸ hu⟩
 |f+1,p,k,h,hf,hk,hu=>by
  have M:k<n:=by omega
  obtain⟨l,q1,q2,q3,q4⟩:=o6 h M hu k 0 k (by omega) (by omega) (vT _) (λi z=>by omega) (λi a b=>by omega);have hsz:k<p.size:=by rw[h.size];exact M
  have T:Up rk (bubble p k (k - l)) (k+1):=λi j U hj=>by
   rw[FR hsz (by omega),FR hsz (by omega)];have e:k - (k - l)=l:=by omega
   rw[e];by_cases i1:i=l
   ·rw[if_pos i1];by_cases O:j=l
    ·rw[if_pos O];exact le_refl _
    ·rw[if_neg O,if_pos (by omega)];have:=q4 (j - 1) (by omega) (by omega);omega
   ·rw[if_neg i1];by_cases i2:l<i/\i<=k
    ·rw[if_pos i2,if_neg (by omega),if_pos (by omega)];exact hu _ _ (by omega) (by omega)
    ·rw[if_neg i2];by_cases O:j=l
     ·rw[if_pos O];exact q3 i (by omega)
     ·rw[if_neg O];by_cases j2:l<j/\j<=k
      ·rw[if_pos j2];exact hu _ _ (by omega) (by omega)
      ·rw[if_neg j2];exact hu _ _ U (by omega)
  obtain⟨G,k1,k2,k3⟩:=Cj f (bubble p k (k - l)) (k+1) (h.bub _ _) (by omega) (by omega) T;exact⟨G,q1.bind k1,k2,k3⟩
def FU (hn:1<=n):∃p,Run n (rf rk) (kas_sort n) p/\qh n p/\Up rk p n:=by
 have h0:qh n (List.toArray (List.range n)):=⟨by simp,by simp⟩;obtain⟨m,p,M,O,q3,q4,T⟩:=DP (rk:=rk) h0 hn;by_cases e:m<n
 ·have G:max m 1=m:=by omega
  obtain⟨U,k1,k2,k3⟩:=Cj (n - max m 1) p (max m 1) O rfl (by omega) (by rw[G];exact T);exact⟨U,M.bind (by dsimp only;rw[if_pos e];exact k1),k2,k3⟩
 ·have:m=n:=by omega
  subst this;exact⟨p,M.bind (by dsimp only;rw[if_neg e];exact .ret _),O,T⟩
end
def l7 {a b c:LI}(h:a<b)(k:b<c):a<c:=lt_trans h k
def DQ {a b c:LI}(h:¬b<a)(k:¬c<b):¬c<a:=not_lt.mpr (le_trans (not_lt.mp h) (not_lt.mp k))
def FV {a b:LI}(h:¬b<a)(k:¬a<b):a=b:=le_antisymm (not_lt.mp h) (not_lt.mp k)
section
variable {α:Type}(f:α->LI)
def Ib (a b:α):Prop:=¬f b<f a
noncomputable def o7 (x:α):List α->List α
 |[]=>[x]
 |y::r=>if f y<f x then y::o7 x r else x::y::r
noncomputable def eN (l:List α):List α:=l.foldr (o7 f) []
theorem o8 (x:α):∀l,(o7 f x l).Perm (x::l)
 |[]=>List.Perm.refl _
 |y::r=>by
  unfold o7;split
  ·exact((o8 x r).cons y).trans (List.Perm.swap x y r)
  ·exact List.Perm.refl _
theorem bH:∀l,(eN f l).Perm l
 |[]=>List.Perm.refl _
 |x::l=>(o8 f x (eN f l)).trans ((bH l).cons x)
theorem vc (x:α):∀l,l.Pairwise (Ib f)->(o7 f x l).Pairwise (Ib f)
 |[],_=>by simp[o7]
 |y::r,h=>by
  obtain⟨h1,h2⟩:=pairwise_cons.mp h;unfold o7;split
  ·rename_i hl;refine pairwise_cons.mpr ⟨λz hz=>?_,vc x r h2⟩;rcases vP ((o8 f x r).mem_iff.mp hz)with rfl|hz
   ·exact λk=>lt_irrefl _ (l7 hl k)
   ·exact h1 z hz
  ·rename_i hl;refine pairwise_cons.mpr ⟨λz hz=>?_,h⟩;rcases vP hz with rfl|hz
   ·exact hl
   ·exact DQ hl (h1 z hz)
theorem ge:∀l,(eN f l).Pairwise (Ib f)
 |[]=>List.Pairwise.nil
 |x::l=>vc f x _ (ge l)
theorem ve:∀(l1 l2:List α),(∀x∈l1,∀y∈l1,f x=f y->x=y)->l1.Perm l2->l1.Pairwise (Ib f)->l2.Pairwise (Ib f)->l1=l2
 |[],l2,_,p,_,_=>(nil_perm.mp p).symm
 |x::G,[],_,p,_,_=>absurd p.length_eq (by simp)
 |x::G,y::T,hi,p,h1,h2=>by
  have hy:y∈x::G:=p.mem_iff.mpr (mX ..);have M:Ib f x y:=by
   rcases vP hy with z|z
   ·rw[z];exact lt_irrefl _
   ·exact(pairwise_cons.mp h1).1 y z
  have O:Ib f y x:=by
   rcases vP (p.mem_iff.mp (mX ..))with z|z
   ·rw[z];exact lt_irrefl _
   ·exact(pairwise_cons.mp h2).1 x z
  have e:x=y:=hi x (mX ..) y hy (FV M O);subst e;rw[ve G T (λa ha b hb=>hi a (mZ _ ha) b (mZ _ hb)) (List.Perm.cons_inv p) (pairwise_cons.mp h1).2 (pairwise_cons.mp h2).2]
theorem kI (hi:∀x∈l,∀y∈l,f x=f y->x=y)(p:l'.Perm l)(h:l'.Pairwise (Ib f)):l'=eN f l :=
 ve f _ _ (λx hx y hy=>hi x (p.mem_iff.mp hx) y (p.mem_iff.mp hy)) (p.trans (bH f l).symm) h (ge f l)
end
theorem mn {α:Type}{p q:α->Bool}(h:∀x,p x=true->q x=true):∀l:List α,(l.filter p).length<=(l.filter q).length
 |[]=>vT _
 |x::l=>by
  have G:=mn h l;rw[filter_cons,filter_cons];by_cases z:p x=true
  ·rw[if_pos z,if_pos (h x z)];simp only[vE];omega
  ·rw[if_neg z];split
   ·simp only[vE];omega
   ·exact G
noncomputable def mW (cs:List LI)(c:LI):Int:=((cs.filter λx=>decide (x<c)).length:Nat)
def Jm {cs:List LI}{a b:LI}(h:¬b<a):mW cs a<=mW cs b:=by
 unfold mW;refine Int.ofNat_le.mpr (mn (λx hx=>?_) cs);rw[decide_eq_true_eq]at hx ⊢;rcases List.le_iff_lt_or_eq.mp (not_lt.mp h)with z|z
 ·exact l7 hx z
 ·rw[←z];exact hx
def Ck {cs:List LI}{a b:LI}(ha:a∈cs)(h:a<b):mW cs a<mW cs b:=by
 unfold mW;apply Int.ofNat_lt.mpr;induction cs with
 |nil=>simp at ha
 |cons c cs M=>
  have G:∀l:List LI,(l.filter λx=>decide (x<a)).length<=(l.filter λx=>decide (x<b)).length:=λl=>
   mn (λx hx=>by rw[decide_eq_true_eq]at hx ⊢;exact l7 hx h) l
  rw[filter_cons,filter_cons];rcases vP ha with rfl|ha
  ·rw[if_neg (by simp[lt_irrefl]),if_pos (by simpa using h)];have:=G cs;simp only[vE];omega
  ·have:=M ha;by_cases z:c<a
   ·rw[if_pos (by simpa using z),if_pos (by simpa using l7 z h)];simp only[vE];omega
   ·rw[if_neg (by simpa using z)];split
    ·simp only[vE];omega
    ·exact this
def yY (ha:a∈cs):decide (mW cs a<mW cs b)=decide (a<b):=by
 by_cases h:a<b
 ·rw[Aq h,Aq (Ck ha h)]
 ·rw[PK h,PK];have:=Jm (cs:=cs) h;omega
inductive At where
 |i (n:Int)
 |s (z:Str)
noncomputable def MA:At->LI
 |.i n=>[n]
 |.s z=>z.cps.toList.map (λ(c:Nat)=>(c:Int)+1)++[0]
noncomputable def cQ (xs:List At):LI:=xs.flatMap MA
noncomputable def bv:List At->List At->Option Bool
 |[],ys=>some (!ys.isEmpty)
 |_::_,[]=>some false
 |.i a::xs,.i b::ys=>if a=b then bv xs ys else some (decide (a<b))
 |.s a::xs,.s b::ys=>if a=b then bv xs ys else some (decide (a.cps.toList<b.cps.toList))
 |_::_,_::_=>none
theorem xA:∀(a b:LN)(r G:LI),(a.map (λ(c:Nat)=>(c:Int)+1)++0::r)<(b.map (λ(c:Nat)=>(c:Int)+1)++0::G)↔a<b∨(a=b/\r<G)
 |[],[],r,G=>by simp[cons_lt_cons_iff]
 |[],y::b,r,G=>by simp[cons_lt_cons_iff]
 |x::a,[],r,G=>by simp[cons_lt_cons_iff];omega
 |x::a,y::b,r,G=>by
  rw[uY,uY,cons_append,cons_append,cons_lt_cons_iff,xA a b r G,cons_lt_cons_iff];constructor
  ·rintro (h|⟨h,k|⟨k1,k2⟩⟩)
   ·exact .inl (.inl (by omega))
   ·exact .inl (.inr ⟨by omega,k⟩)
   ·exact .inr ⟨by rw[k1,show x=y by omega],k2⟩
  ·rintro ((h|⟨h,k⟩)|⟨h,k⟩)
   ·exact .inl (by omega)
   ·exact .inr ⟨by omega,.inl k⟩
   ·injection h with h1 h2;exact .inr ⟨by omega,.inr ⟨h2,k⟩⟩
def j0 (x:At)(xs:List At):cQ (x::xs)=MA x++cQ xs:=by unfold cQ;rw[flatMap_cons]
def MB (x:At):MA x≠[]:=by cases x<;>simp[MA]
def Cm {a b:Str}:a.cps.toList=b.cps.toList↔a=b:=by
 constructor
 ·intro h;obtain⟨a⟩:=a;obtain⟨b⟩:=b;have:a=b:=toList_inj.mp h;rw[this]
 ·rintro rfl;rfl
theorem xB:∀(xs ys:List At)(b:Bool),bv xs ys=some b->b=decide (cQ xs<cQ ys)
 |[],[],b,h=>by simp[bv]at h;subst h;simp[cQ]
 |[],y::ys,b,h=>by
  simp[bv]at h;subst h;rw[j0];cases e:MA y with
  |nil=>exact absurd e (MB y)
  |cons c cs=>simp[cQ]
 |x::xs,[],b,h=>by simp[bv]at h;subst h;simp[cQ]
 |.i a::xs,.i c::ys,b,h=>by
  rw[bv]at h;rw[j0,j0];show b=decide (a::cQ xs<c::cQ ys);split at h
  ·rename_i e;subst e;rw[xB xs ys b h];exact decide_eq_decide.mpr (by rw[cons_lt_cons_iff];simp)
  ·rename_i e;cases h
   exact decide_eq_decide.mpr (by rw[cons_lt_cons_iff];simp[e])
 |.s a::xs,.s c::ys,b,h=>by
  rw[bv]at h;rw[j0,j0];have G:∀(z:Str)(r:LI),MA (.s z)++r=z.cps.toList.map (λ(c:Nat)=>(c:Int)+1)++0::r:=λz r=>by simp[MA]
  rw[G,G];split at h
  ·rename_i e;subst e;rw[xB xs ys b h];exact decide_eq_decide.mpr (by rw[xA];exact⟨λz=>.inr ⟨rfl,z⟩,λz=>z.elim (λq=>absurd q (lt_irrefl _)) (·.2)⟩)
  ·rename_i e;cases h
   exact decide_eq_decide.mpr (by rw[xA,Cm];exact⟨.inl,λz=>z.elim id λq=>absurd q.1 e⟩)
 |.i _::_,.s _::_,b,h=>by simp[bv]at h
 |.s _::_,.i _::_,b,h=>by simp[bv]at h
theorem AZ:∀(xs ys:List At),bv xs ys=some false->bv ys xs=some false->xs=ys
 |[],[],_,_=>rfl
 |[],y::ys,h,_=>by simp[bv]at h
 |x::xs,[],_,h=>by simp[bv]at h
 |.i a::xs,.i c::ys,h,k=>by
  rw[bv]at h k;by_cases e:a=c
  ·subst e;rw[if_pos rfl]at h k;rw[AZ xs ys h k]
  ·rw[if_neg e]at h;rw[if_neg (Ne.symm e)]at k;simp at h k;omega
 |.s a::xs,.s c::ys,h,k=>by
  rw[bv]at h k;by_cases e:a=c
  ·subst e;rw[if_pos rfl]at h k;rw[AZ xs ys h k]
  ·rw[if_neg e]at h;rw[if_neg (Ne.symm e)]at k;simp only[Option.some.injEq,decide_eq_false_iff_not]at h k;exact absurd (Cm.mp (le_antisymm (not_lt.mp k) (not_lt.mp h))) e
 |.i _::_,.s _::_,h,_=>by simp[bv]at h
 |.s _::_,.i _::_,h,_=>by simp[bv]at h
noncomputable def eO (ks:List (List At)):Bool:=ks.all λx=>ks.all λy=>(bv x y).isSome
def iq (h:eO ks=true)(hx:x∈ks)(hy:y∈ks):bv x y=some (decide (cQ x<cQ y)):=by
 have:=uR (uR h x hx) y hy;obtain⟨b,e⟩:=uU this;rw[e,xB _ _ _ e]
def o9 (h:eO ks=true)(hx:x∈ks)(hy:y∈ks)(e:cQ x=cQ y):x=y:=by
 refine AZ _ _ ?_ ?_
 ·rw[iq h hx hy,e,PK (lt_irrefl _)]
 ·rw[iq h hy hx,e,PK (lt_irrefl _)]
def Au:At->Value->Prop
 |.i n,v=>∃t,v=.int n t
 |.s z,v=>∃t,v=.str z t
def iC (h:Heap)(xs:List At)(v:Value):Prop:=∃a o its n,v=.ref a/\h.get? a=some o/\o.cls=.type "tuple"/\o.data=.seq its n/\Paired Au xs its.toList
noncomputable def fK (ks:List (List At)):Bool:=ks.all (λx=>match x with|.i _::_=>true|_=>false) || ks.all (λx=>match x with|.s _::_=>true|_=>false)
section
variable {prog:Program}{w:World}{A:Around}{E:QV}{s:Shared}
theorem rh:∀(xs ys:List At)(its G:LU)(i:Nat),Paired Au xs its->Paired Au ys G->bv xs ys=some b->ju=decide (xs.length<ys.length)->Q b s->KatLex prog w A true ju Q (its.zip G) i s
 |[],ys,_,G,i,.nil,T,h,hf,q=>by
  rw[List.zip_nil_left];refine kat_nil ?_;cases ys with
  |nil=>simp[bv]at h;subst h;rw[hf];exact q
  |cons y ys=>simp[bv]at h;subst h;rw[hf];simpa using q
 |x::xs,[],_,_,i,_,.nil,h,hf,q=>by
  rw[List.zip_nil_right];refine kat_nil ?_;simp[bv]at h;subst h;rw[hf];simpa using q
 |.i a::xs,.i c::ys,_,_,i,.cons U M,.cons T O,h,hf,q=>by
  obtain⟨t,rfl⟩:=U;obtain⟨u,rfl⟩:=T;rw[zip_cons_cons];refine kat_cons (wpAny_eqBool_int ?_);rw[bv]at h;by_cases e:a=c
  ·rw[if_pos e]at h;rw[show(a == c)=true by simp[e]];exact kat_yes (rh xs ys _ _ (i+1) M O h (by rw[hf];simp) q)
  ·rw[if_neg e]at h;cases h
   rw[show(a == c)=false by simp[e]];refine kat_no ?_;cases hb:(true && i == 0) with
   |true=>exact oneLt_int q
   |false=>exact kat_one _ _ (PyProof.Rows.lt_int q)
 |.s a::xs,.s c::ys,_,_,i,.cons U M,.cons T O,h,hf,q=>by
  obtain⟨t,rfl⟩:=U;obtain⟨u,rfl⟩:=T;rw[zip_cons_cons];refine kat_cons (wpAny_eqBool_str ?_);rw[bv]at h;by_cases e:a=c
  ·rw[if_pos e]at h;rw[Aq e];exact kat_yes (rh xs ys _ _ (i+1) M O h (by rw[hf];simp) q)
  ·rw[if_neg e]at h;cases h
   rw[PK e];refine kat_no ?_;cases hb:(true && i == 0) with
   |true=>exact oneLt_str q
   |false=>exact kat_one _ _ (PySem.P.lt_str q)
 |.i _::_,.s _::_,_,_,_,_,_,h,_,_=>by simp[bv]at h
 |.s _::_,.i _::_,_,_,_,_,_,h,_,_=>by simp[bv]at h
theorem gf {α O:Type}{F:α->O->Prop}:∀ {G:List α}{M:List O},Paired F G M->G.length=M.length
 |_,_,.nil=>rfl
 |_,_,.cons _ t=>by simp[gf t]
def MC {Q:Bool->Shared->Prop}{xs ys:List At}{x y:Value}{b:Bool}(hx:iC s.heap xs x)(hy:iC s.heap ys y)(h:bv xs ys=some b)(q:Q b s):wpAny (model prog w) A (keyLt' (tuples' true) x y) Q E s:=by
 obtain⟨a,o,its,n,rfl,T,_,hd,r⟩:=hx;obtain⟨U,o',its',n',rfl,G,_,M,O⟩:=hy;refine kat_lt T hd G M (rh xs ys _ _ 0 r O h ?_ q);rw[←vG,←vG,gf r,gf O]
theorem pq:∀ {ks:List (List At)}{vs:LU},Paired (iC h) ks vs->(∀k∈ks,k≠[])->∃fs,KatTups h vs fs/\fs.length=ks.length/\∀v∈fs,∃k r,(k::r)∈ks/\Au k v
 |_,_,.nil,_=>⟨[],trivial,rfl,by simp⟩
 |k::ks,_,.cons x t,G=>by
  obtain⟨fs,h1,h2,h3⟩:=pq t λz hz=>G z (mZ _ hz);obtain⟨a,o,its,n,rfl,T,hc,hd,r⟩:=x;cases M:its.toList with
  |nil=>
   rw[M]at r;cases r
   exact absurd rfl (G [] (mX ..))
  |cons v vs=>
   rw[M]at r;obtain⟨p,O⟩:∃p,its[0]? = some v:=⟨(),by rw[←getElem?_toList,M];rfl⟩;cases r with
   |cons q qs=>
    rename_i k0 U;refine⟨v::fs,KatTups.cons T hc hd O h1,by simp[h2],λu hu=>?_⟩;rcases vP hu with rfl|hu
    ·exact⟨k0,U,mX ..,q⟩
    ·obtain⟨k1,O,m1,m2⟩:=h3 u hu;exact⟨k1,O,mZ _ m1,m2⟩
def FW (hp:Paired (iC s.heap) ks vs)(hf:fK ks=true)(hn:0<ks.length)(q:Q (tuples' true) s):wpAny (model prog w) A (keyKind' vs.toArray) Q E s:=by
 have G:∀k∈ks,k≠[]:=λk hk z=>by
  subst z;unfold fK at hf;rw[Bool.or_eq_true]at hf;rcases hf with hf|hf
  ·have:=uR hf [] hk;simp at this
  ·have:=uR hf [] hk;simp at this
 obtain⟨fs,h1,h2,h3⟩:=pq hp G;unfold fK at hf;rw[Bool.or_eq_true]at hf;rcases hf with hf|hf
 ·refine kat_kind (T:=.type "int") h1 (by omega) (λv hv=>?_) (by decide) q;obtain⟨k,r,m,z⟩:=h3 v hv;have:=uR hf _ m;cases k with
  |i n=>obtain⟨t,rfl⟩:=z;exact .now
  |s M=>simp at this
 ·refine kat_kind (T:=.type "str") h1 (by omega) (λv hv=>?_) (by decide) q;obtain⟨k,r,m,z⟩:=h3 v hv;have:=uR hf _ m;cases k with
  |s M=>obtain⟨t,rfl⟩:=z;exact .now
  |i n=>simp at this
end
section
variable {prog:Program}{w:World}{A:Around}{E:QV}{s:Shared}
theorem fx {α O:Type}{F:α->O->Prop}(d:α)(e:O):∀ {G:List α}{M:List O},Paired F G M->∀ {i:Nat},i<G.length->F (G.getD i d) (M.getD i e)
 |_,_,.cons r t,0,_=>r
 |_,_,.cons r t,i+1,h=>by
  simp only[getD_cons_succ];exact fx d e t (by simpa using h)
 |_,_,.nil,i,h=>by simp at h
def Ic (ks:List (List At))(i:Nat):Int:=mW (ks.map cQ) (cQ (ks.getD i []))
def Jn {ks:List (List At)}{vs:LU}(hc:eO ks=true)(hp:Paired (iC s.heap) ks vs):∀(i j:Nat)(C:Bool->Shared->Prop)(s1:Shared),i<ks.length->j<ks.length->s1=s->(∀s',s'=s->C (rf (Ic ks) i j) s')->kas_ask prog w A (tuples' true) vs i j C s1:=by
 intro i j C s1 hi hj e M;subst e;unfold kas_ask;have G:ks.getD i []∈ks:=by rw[vF,vU hi];exact getElem_mem hi
 have O:ks.getD j []∈ks:=by rw[vF,vU hj];exact getElem_mem hj
 refine MC (fx [] Value.none hp hi) (fx [] Value.none hp hj) (iq hc G O) ?_;have:=M s1 rfl;unfold rf Ic at this;rw[yY (uS ⟨_,G,rfl⟩)]at this;exact this
end
end DL
namespace DL
open PySem PySem.Spec PySem.W PyProof.Rows L2
noncomputable def Lh:D->Option At
 |.int n=>some (.i n)
 |.str z=>some (.s z)
 |_=>none
def jN:LD->Option (List At)
 |[]=>some []
 |d::ds=>(Lh d).bind λa=>(jN ds).map (a :: ·)
def yZ:D->Option (List At)
 |.tup es=>jN es
 |_=>none
def dO:LD->Option (List (List At))
 |[]=>some []
 |d::ds=>(yZ d).bind λa=>(dO ds).map (a :: ·)
def ri (ns:LI):LI:=eN (λn=>[n]) ns
theorem l8:∀ {ds:LD}{ks:List (List At)},dO ds=some ks->ks.length=ds.length
 |[],_,h=>by simp only[dO]at h;cases h;rfl
 |d::ds,_,h=>by
  simp only[dO]at h;obtain⟨a,h1,h⟩:=oX h;obtain⟨r,h2,h⟩:=oY h;subst h;simp[l8 h2]
theorem vg:∀ {ds:LD}{ks:List (List At)},dO ds=some ks->∀ {i:Nat},i<ds.length->yZ (ds.getD i .non)=some (ks.getD i [])
 |[],_,h,i,hi=>by simp at hi
 |d::ds,_,h,0,hi=>by
  simp only[dO]at h;obtain⟨a,h1,h⟩:=oX h;obtain⟨r,h2,h⟩:=oY h;subst h;exact h1
 |d::ds,_,h,i+1,hi=>by
  simp only[dO]at h;obtain⟨a,h1,h⟩:=oX h;obtain⟨r,h2,h⟩:=oY h;subst h;simp only[getD_cons_succ];exact vg h2 (by simpa using hi)
section
variable {X:Cx}
theorem za {K:Frag}{B:Hp}:∀ {vs:LV}{es:LD}{k:List At}{its:LU},b7 vs its->IsL K B vs es->jN es=some k->Paired Au k its
 |_,_,_,_,.nil,.nil,h=>by simp only[jN]at h;cases h;exact .nil
 |_,_,_,_,.cons r G,.cons i M,h=>by
  simp only[jN]at h;obtain⟨a,h1,h⟩:=oX h;obtain⟨t,h2,h⟩:=oY h;subst h;refine .cons ?_ (za G M h2);cases i<;>simp only[Lh]at h1<;>cases h1
  ·exact r
  ·exact r
theorem qm {ah:AO}{σ:St}{H:Hp}{s:Shared}(I:Inv X ah σ H s):∀ {ys:LV}{ds:LD}{ks:List (List At)}{its:LU},b7 ys its->IsL X.K H ys ds->dO ds=some ks->Paired (iC s.heap) ks its
 |_,_,_,_,.nil,.nil,h=>by simp only[dO]at h;cases h;exact .nil
 |_,_,_,_,.cons r G,.cons i M,h=>by
  simp only[dO]at h;obtain⟨a,h1,h⟩:=oX h;obtain⟨t,h2,h⟩:=oY h;subst h;refine .cons ?_ (qm I G M h2);cases i<;>simp only[yZ]at h1<;>try (cases h1;done)
  rename_i hq hl;cases r
  obtain⟨its',O,⟨o,T,hc,n,hd⟩,_⟩:=I.tuple hq;exact⟨_,o,_,n,rfl,T,hc,hd,by simpa using za O hl h1⟩
theorem Cn {K:Frag}{B:Hp}:∀ {vs:LV}{ds:LD},IsL K B vs ds->∀ {i:Nat},i<ds.length->Is K B (vs.getD i .non) (ds.getD i .non)
 |_,_,.cons h _,0,_=>h
 |_,_,.cons _ t,i+1,hi=>by
  simp only[getD_cons_succ];exact Cn t (by simpa using hi)
 |_,_,.nil,i,hi=>by simp at hi
theorem zb:∀ {vs:LV}{us:LU},b7 vs us->∀ {i:Nat},i<vs.length->be (vs.getD i .non) (us.getD i Value.none)
 |_,_,.cons h _,0,_=>h
 |_,_,.cons _ t,i+1,hi=>by
  simp only[getD_cons_succ];exact zb t (by simpa using hi)
 |_,_,.nil,i,hi=>by simp at hi
theorem zc {K:Frag}{B:Hp}{vs:LV}{ds:LD}(h:IsL K B vs ds):∀(l:LN),(∀i∈l,i<ds.length)->IsL K B (l.map λi=>vs.getD i .non) (l.map λi=>ds.getD i .non)
 |[],_=>.nil
 |i::l,hl=>.cons (Cn h (hl i (mX ..))) (zc h l λj hj=>hl j (mZ _ hj))
theorem vh (h:b7 vs us):∀(l:LN),(∀i∈l,i<vs.length)->b7 (l.map λi=>vs.getD i .non) (l.map λi=>us.getD i Value.none)
 |[],_=>.nil
 |i::l,hl=>.cons (zb h (hl i (mX ..))) (vh h l λj hj=>hl j (mZ _ hj))
end
section
variable {X:Cx}
theorem jx:∀ {its:LU}{zs:LI},IntsAre its zs->b7 (zs.map V.int) its
 |_,_,.nil=>.nil
 |_,_,.cons x t r=>.cons ⟨t,rfl⟩ (jx r)
theorem rj {K:Frag}{N:Hp}:∀(zs:LI),IsL K N (zs.map V.int) (zs.map D.int)
 |[]=>.nil
 |z::zs=>.cons (.int z) (rj zs)
def FX (p:l'.Perm l)(h:l'.Pairwise (·<=·)):l'=ri l:=by
 refine kI _ (λx _ y _ e=>by injection e) p (h.imp λ{a b} hab=>?_);unfold Ib;intro z;rw[cons_lt_cons_iff]at z;rcases z with z|⟨_,z⟩
 ·omega
 ·exact lt_irrefl _ z
end
end DL
namespace DL
open PySem PySem.Spec PyProof.Rows L2
section
variable {X:Cx}{e:Expr}{pos pos2 p p2:Pos}
def ug:c8 X (.builtin "len") (λxs H Q=>∃S G,xs=[.ref S]/\H S=some (yT X S G)/\Q (.int (G.length:Nat)) H):=by
 intro ah s σ H xs us Q I r h;obtain⟨S,G,rfl,O,q⟩:=h;obtain⟨u,rfl,T⟩:=jX r;cases T
 have U:iS X.prog X.w s.heap S G:=(I.hok S _ O).1;obtain⟨o,es,ep,t,ho,M,hd,Ls,hp,nd,hb,hf,_⟩:=U;have sz:es.size=G.length:=by rw[←hp.length_eq,vI,vG]
 have Yd:G.length<4096:=hb;exact PySem.call_len_set ho M hd hf (by rw[sz];omega) ⟨.int (G.length:Nat),H,I.tok _,⟨_,by rw[sz]⟩,q⟩
def DR (hc:X.calm=true)(m1:X.mg "len" = none)(m2:X.mg "set" = none)(he:JE X e f)(g1:Gl X "len":=by rfl)(g2:Gl X "set":=by rfl)
  (h1:starEach [e] X.env=(false,eval e X.env)::starEach [] X.env:=by rfl):JE X (.Call (.Name "len" p) [.Call (.Name "set" p2) [e] [] pos2] [] pos) (f1 mU f):=by
 refine PE.to (qC ug g1 m1 eM (gF (ou (pj hc) g2 m2 Lg (gF he je h1) (he:=h1)) je)) λσ H Q q=>?_;obtain⟨B,ρ,d',bb,sB,r,G,q⟩:=q;obtain⟨O,ex,G⟩:=oX G;refine⟨B,ρ,O.1,O.2,sB,r,ex,λv H1 N1 M i1 fr=>?_⟩;obtain⟨xd,xb⟩:=O;cases i1<;>try (simp[mU]at G;done)
 rename_i l0 vs ds h hl;simp only[mU]at G;obtain⟨ss,ez,G⟩:=oX G;split at G
 ·rename_i T;cases G
  refine⟨_,_,ss,rfl,M.nh.seq h,λits r'=>mQ r' hl ez,T,λS hS=>⟨S,_,rfl,aB,?_⟩⟩;have U:=Ext.laid (o:=yT X S (ga ss)) M.nh hS;exact(q.into (M.trans U)).one (M.trans U).nh (.int _)
 ·cases G
end
section
variable {X:Cx}{a:Expr}{pos:Pos}{x:Str}{p:Pos}{d:Addr}{aM:List (Str×D)}
def DS (cd:mS X.K X.w.params d aM):dL X (compareOp .NotIn) (λx y H Q=>∃z,x=.str z/\y=.ref d/\Q (.bl (!(aM.lookup z).isSome)) H):=by
 rintro ah s σ H _ _ v u Q I M O ⟨z,rfl,rfl,q⟩;cases O
 obtain⟨t,rfl⟩:=M;obtain⟨f,T,U,hf⟩:=cd.map I;refine wpAny_notIn_of (strKind_is X.prog X.w z t) U T ⟨.bl (!(aM.lookup z).isSome),H,I.tok _,?_,q⟩;have:=hf z;cases G:aM.lookup z with
 |none=>rw[G]at this;dsimp only at this;rw[this];rfl
 |some dd=>rw[G]at this;obtain⟨_,_,e1,_⟩:=this;rw[e1];rfl
def DT (h:∃d,X.mg x=some (.ref d)/\mS X.K X.w.params d aM)(ha:JE X a f)(U:Gl X x:=by rfl)(hd:(x == ("__debug__" : Str))=false:=by decide)(hm:behindInMarks .NotIn (.Name x p)=false:=by rfl):JT X (.Compare a [.NotIn] [.Name x p] pos) (aT (f1 (qV aM) f)):=by
 obtain⟨d,M,cd⟩:=h;refine PT.to (BF (DS cd) ha (qi (v:=.ref d) U M rfl hd) hm) λσ H Q q=>?_;obtain⟨B,ρ,d',bb,sB,r,G,q⟩:=wT q;obtain⟨O,ex,G⟩:=oX G;refine⟨B,ρ,O.1,O.2,sB,r,ex,λv H1 N1 T i1 fr=>?_⟩;obtain⟨xd,xb⟩:=O;cases i1<;>try (simp[qV]at G;done)
 rename_i z;simp only[qV]at G;cases G
 exact⟨z,rfl,rfl,(q.into T).one T.nh (.bl _)⟩
end
section
variable {prog:Program}{w:World}{A:Around}{E:QV}{s:Shared}
def Ba {a:Addr}{o:Obj}{its:AV}{n:Nat}{x:Value}{e:Value->Bool}{j:Nat}{P:PySem.Fin->Shared->Prop}(U:s.heap.get? a=some o)(hd:o.data=.seq its n)
  (he:∀y∈its,MeetsSeq.EqGives y x (e y)) (hj:j<its.size) (tS:e its[j]=true) (M:∀m (hm:m<its.size),m<j->e its[m]=false)
  (h:P (.done (.ret (.int j s.toks))) { s with toks:=s.toks+1 }):wpAny (model prog w) A (Builtin.«tuple.index» ⟨[.ref a,x],[]⟩) P E s:=by
 show wpAny _ _ (Builtin.Tuple.tupleItemsOf (.ref a)>>=_) _ _ s;refine wX (wpAny_tupleItemsOf U hd ?_);dsimp only;refine wX (wY (wX (wY (wX ?_))));rw[Std.Legacy.Range.forIn_eq_forIn_range'];refine wpAny_forIn_list _
  (λax r s'=>r.1=none/\s'=s/\∃i,i<=j/\ax=List.range' i (its.size - i))
  _ ?_ ?_ _ _ ⟨rfl,rfl,0,uN _,?_⟩
 ·rintro k ax r s' ⟨hr,rfl,i,hi,hz⟩;have G:i<its.size:=by omega
  obtain⟨m,hm⟩:∃m,its.size - i=m+1:=⟨its.size - i - 1,by omega⟩;rw[hm,List.range'_succ]at hz;injection hz with O z2;have O:=O.symm;subst O;subst z2;have hg:its[i]? = some its[i]:=by simp[G]
  simp only[hg];refine wX (he _ (Array.getElem_mem G) prog w _ _ _ _ ?_);by_cases T:i=j
  ·subst T;rw[tS];simp only[if_true];refine wX ?_;show wpAny _ _ (mkInt (i:Int)>>=λv=>ret v) _ _ _;exact wX (wpAny_mkInt (wY (wY (wY h))))
  ·rw[M i G (by omega)];simp only[uV,if_false];exact wY ⟨rfl,rfl,i+1,by omega,by rw[show its.size - (i+1)=m by omega]⟩
 ·rintro⟨r1,r2⟩ s' ⟨hr,rfl,i,hi,hz⟩;exfalso;have:(List.range' i (its.size - i)).length=0:=by rw[←hz];rfl
  rw[List.length_range']at this;omega
 ·simp
end
theorem CRows.findT {K:Frag}{P:Params}(y:Str){ds:LD}:∀ {es:List DictEntry}{aM:List (Str×D)},CRows K P es aM->aM.lookup y=some (.tup ds) ->
  ∃e a its n lY,es.find? (λe=>Value.isStrOf y e.key)=some e/\e.val=.ref a/\K.lookup a=some ⟨.type "tuple",none,.seq its n,lY⟩/\jK its.toList ds=true
 |_,_,.nil,h=>by simp at h
 |_,_,.tup (x:=x) (t:=t) (a:=a) (ds:=O) hh l f tl,h=>by
  by_cases e:y=x
  ·subst e;rw[lookup_cons_self]at h;cases h
   rw[vC]at f;exact⟨_,a,_,_,_,List.find?_cons_of_pos (by simp[Value.isStrOf]),rfl,l,f.2⟩
  ·rw[lookup_cons,beq_eq_false_iff_ne.mpr e]at h;have G:Value.isStrOf y (Value.str x t)=false:=by
    rw[Bool.eq_false_iff];intro z;obtain⟨t',q⟩:=Value.isStrOf_shape z;injection q with M;exact e M.symm
   simp only[find?_cons,G];exact tl.findT y h
 |_,_,.flat (x:=x) (t:=t) (u:=u) (d:=d) hh f tl,h=>by
  by_cases e:y=x
  ·subst e;rw[lookup_cons_self]at h;cases h
   cases u<;>simp[xn]at f
  ·rw[lookup_cons,beq_eq_false_iff_ne.mpr e]at h;have G:Value.isStrOf y (Value.str x t)=false:=by
    rw[Bool.eq_false_iff];intro z;obtain⟨t',q⟩:=Value.isStrOf_shape z;injection q with M;exact e M.symm
   simp only[find?_cons,G];exact tl.findT y h
section
variable {X:Cx}{b e:Expr}{pos:Pos}{x:Str}{p:Pos}
def R7 (K:Frag):V->LV->Hp->VK->Prop:=λx xs H Q=>∃(a:Addr)(o:Obj)(its:AV)(n:Nat)(zs:LS)(y:Str),x=.ref a/\xs=[.str y]/\K.lookup a=some o/\o.cls=.type "tuple"/\o.data=.seq its n/\StrsAre its.toList zs/\zs.findIdx (· == y)<zs.length/\Q (.int (zs.findIdx (· == y):Nat)) H
noncomputable def Li (y:Str):Value->Bool
 |.str z _=>z == y
 |_=>false
theorem Co:∀ {its:LU}{zs:LS},StrsAre its zs->∀(i:Nat)(hi:i<its.length),∃(h:i<zs.length)(t:Tok),its[i]=.str zs[i] t
 |_,_,.cons z t h,0,_=>⟨by simp,t,rfl⟩
 |_,_,.cons z t h,i+1,hi=>by
  obtain⟨h',t',e⟩:=Co h i (by simpa using hi);exact⟨by simpa using h',t',by simpa using e⟩
 |_,_,.nil,i,hi=>by simp at hi
theorem zd:∀ {its:LU}{zs:LS},StrsAre its zs->its.length=zs.length
 |_,_,.nil=>rfl
 |_,_,.cons _ _ h=>by rw[vE,vE,zd h]
def FY:Mg X "tuple.index" (R7 X.K):=by
 intro ah s σ H x xs v us Q I T U h;obtain⟨a,o,its,n,zs,y,rfl,rfl,lk,hc,hd,hz,hk,q⟩:=h;cases T
 obtain⟨u,rfl,⟨t,rfl⟩⟩:=U.one;have O:=I.kIn a o lk;have hl:=zd hz;rw[vG]at hl;have at':∀(i:Nat)(hi:i<its.size),∃(h:i<zs.length)(t:Tok),its[i]=.str zs[i] t:=λi hi=>by
  obtain⟨h',t',e⟩:=Co hz i (by simpa using hi);exact⟨h',t',by simpa using e⟩
 refine wpAny_call_entry PySem.F.slot_tuple_index ⟨o,O,hc⟩ PySem.F.entry_tuple_index (Ba (e:=Li y) (j:=zs.findIdx (· == y)) O hd (λz hm=>?_) (by omega) ?_ (λm hm M=>?_) ⟨_,rfl,.int (zs.findIdx (· == y):Nat),H,I.tok _,⟨_,rfl⟩,q⟩) (PySem.F.args_tuple_index_2 _ _)
 ·obtain⟨i,hi,rfl⟩:=Array.mem_iff_getElem.mp hm;obtain⟨_,t',G⟩:=at' i hi;rw[G];exact eqGives_str _ _ _ _
 ·obtain⟨_,t',G⟩:=at' (zs.findIdx (· == y)) (by omega);rw[G];exact List.findIdx_getElem (p:=(· == y)) (w:=hk)
 ·obtain⟨_,t',G⟩:=at' m hm;rw[G];have:=List.not_of_lt_findIdx (p:=(· == y)) (xs:=zs) M;simpa [Li]using this
@[simp] def mo (aM:List (Str×D)):D->D->OB
 |.str y,.str z=>match aM.lookup y with
  |some (.tup ds)=>(jZ ds).bind λzs=>if zs.findIdx (· == z)<zs.length then some (.int (zs.findIdx (· == z):Nat),false)else none
  |_=>none
 |_,_=>none
def Jo {aM:List (Str×D)}{f g:FE}{dM cF:Pos}(h:∃d,X.mg x=some (.ref d)/\mS X.K X.w.params d aM)(hb:JE X b f)(he:JE X e g)(hg:Gl X x:=by rfl)(SD:(x == ("__debug__" : Str))=false:=by decide)(hs:mE b:=by intro _ _;rfl)
  (M:attributeBase (.Subscript (.Name x p) b pos) "index" X.env (eval (.Subscript (.Name x p) b pos) X.env)=eval (.Subscript (.Name x p) b pos) X.env:=by rfl)
  (U:((backTo cF (starEach [e] X.env)).all (λx=>!x.1) && (backToKw cF (keywordEach [] X.env)).all (λx=>x.1.isSome)
   && decide ([e].length+([]:List Keyword).length+(if([]:List Keyword).isEmpty then 0 else 1)<30))=true:=by rfl)
  (O:(dM.endLine == cF.line)=true:=by rfl) (EF:starEach [e] X.env=[(false,eval e X.env)]:=by rfl):
  JE X (.Call (.Attribute (.Subscript (.Name x p) b pos) "index" dM) [e] [] cF) (f2 (mo aM) f g):=by
 obtain⟨d,hm,cd⟩:=h;have ix:EX X (λx y H Q=>∃z ds,x=.ref d/\y=.str z/\aM.lookup z=some (.tup ds)/\∀a its n lY,X.K.lookup a=some ⟨.type "tuple",none,.seq its n,lY⟩->jK its.toList ds=true->Q (.ref a) H):=by
  intro value slice ah s σ H x y v u Q I rx ry q hs;obtain⟨z,ds,rfl,rfl,el,q⟩:=q;cases rx
  obtain⟨t,rfl⟩:=ry;obtain⟨es,n,l,r,sm⟩:=cd;have hM:=PySem.W.mapOf_K (prog:=X.prog) (w:=X.w) I.kIn l r.lit;obtain⟨en,a,its,n',lY,e1,e2,e3,e4⟩:=r.findT z el;have ff:findBy Value.isStrOf es z=some (.ref a):=by
   unfold findBy;obtain⟨es⟩:=es;rw[List.find?_toArray,e1,←e2];rfl
  exact tail_any hM.typeIs slot_dict_getitem.lookup (wpAny_getItem_of (strKind_is X.prog X.w z t) hM ff ⟨.ref a,H,I.tok _,rfl,q a _ _ _ e3 e4⟩) hs
 refine PE.to (Fc (T:="tuple") PySem.F.plainAttrs_tuple PySem.F.slot_tuple_index PySem.F.type_tuple_index FY (EY ix (qi (v:=.ref d) hg hm rfl SD) hb hs) (gF he je EF) M U O EF rfl) λσ H Q q=>?_;obtain⟨B,ρ,d',bb,sB,r,G,q⟩:=q;obtain⟨x1,ex,G⟩:=oX G;obtain⟨y1,ey,G⟩:=oX G;obtain⟨xd,xb⟩:=x1;obtain⟨yd,yb⟩:=y1;cases xd with
 |str z=>
  cases yd with
  |str y=>
   refine⟨B,ρ,_,xb,sB,r,ex,λv H1 N1 xt i1 _=>?_⟩;cases i1
   simp only[mo]at G;split at G
   ·rename_i ds el;obtain⟨zs,ez,G⟩:=oX G;split at G
    ·rename_i hk;cases G
     refine⟨z,ds,rfl,rfl,el,λa its n lY l fl=>⟨.inr (.inl ⟨rfl,_,l,rfl,rfl⟩),N1,ρ,_,yb,xt.nh,r.mono xt.bn,ey,λv2 H2 N2 xt2 i2 _=>?_⟩⟩;cases i2
     obtain⟨vs,rv,iv⟩:=jL (K:=X.K) fl;exact⟨a,_,its,n,zs,y,rfl,rfl,l,rfl,rfl,mQ rv (iv N2) ez,hk,(q.into (xt.trans xt2)).one xt2.nh (.int _)⟩
    ·cases G
   ·cases G
  |_=>simp[mo]at G
 |_=>simp[mo]at G
end
open PySem.W (tabIn tabObj CodeHd kla_fn kla_obj kla_eval kla_makeFunction kla_makeFunctionHit kla_callFunE kla_codeExpr envX)
def Pd (K:Frag)(c P:Addr):Prop:=∃o vs M U G tg T O tt,K.lookup c=some o/\o.cls=.type "code"/\o.data=.fields vs/\vs[11]? = some (.ref P)/\vs.getD 11 .none=.ref P/\vs.getD 18 .none=.str M U /\
 vs.getD 7 .none=.int G tg/\vs.getD 9 .none=.bool T/\vs.getD 10 .none=.int O tt/\c≠P
def Bb (K:Frag)(x:Str):Prop:=∃c P,tabIn K x=some (c,P)/\Pd K c P
def FZ (H:Hp)(f:Addr)(q:Str)(params:Arguments)(G:Expr)(scope:Scope)(cl:List (Str×Addr)):Prop :=
 ∃pm c M u oc O vs t,H f=some (.frz (kla_obj "<lambda>" q params G scope cl pm c M) u)/\H c=some (.frz oc O)/\oc.data=.fields vs/\vs[1]? = some (.str q t)
def FZ.mono (h:FZ H f q params body scope cl)(e:aZ H H'):FZ H' f q params body scope cl :=
 let ⟨pm,c,G,u,oc,M,vs,t,h1,h2,h3,h4⟩:=h;⟨pm,c,G,u,oc,M,vs,t,e _ _ h1,e _ _ h2,h3,h4⟩
def lam_mk {K:Frag}{x:Str}{f c P:Addr}{oc:Value}{od WR:Option Addr}{lY T:Array (Option Value)}{fd:FuncData}{vs:AV}{M:Str}{tf tg tt:Tok}{G O:Int}{U:Bool}(e1:nsIn K mainGlobals x=some (some (.ref f)))(e2:K.lookup f=some ⟨oc,od,.func fd,lY⟩)
  (e3:fd.code=.ref c) (e4:K.lookup c=some ⟨.type "code",WR,.fields vs,T⟩) (e5:vs[11]? = some (.ref P)) (e6:vs.getD 11 .none=.ref P) (e7:vs.getD 18 .none=.str M tf) (e8:vs.getD 7 .none=.int G tg) (e9:vs.getD 9 .none=.bool U) (WS:vs.getD 10 .none=.int O tt) (U7:(c == P)=false):Bb K x :=
 ⟨c,P,tab_yes e1 e2 e3 e4 e5,_,vs,M,tf,G,tg,U,O,tt,e4,rfl,rfl,e5,e6,e7,e8,e9,WS,λz=>by rw[z]at U7;simp at U7⟩
def Bc (l:LU)(h:TriplesOk l)(e:codeAmong pos (l++[rawInt a,rawInt b,c])=some cv):codeAmong pos l=some cv∨cv=c:=by
 fun_induction TriplesOk l with
 |case1=>
  simp only[List.nil_append,rawInt,codeAmong]at e;split at e
  ·cases e;exact .inr rfl
  ·cases e
 |case2 M t O u x ax G=>
  simp only[cons_append,codeAmong]at e ⊢;split at e
  ·rename_i hc;rw[if_pos hc];exact .inl e
  ·rename_i hc;rw[if_neg hc];exact G h e
 |case3 l h1 h2=>exact h.elim
section
variable {X:Cx}{ah:AO}{σ:St}{H:Hp}{s:Shared}
def Ga 
  (hx:x∈mJ) (L:Bb X.K x) (hc:∀c P,tabIn X.K x=some (c,P)->X.env.code=.ref c) (hq:X.env.qual ++ "<lambda>" = qF x) (SE:defaultsOf params X.env=([],[])) (N7:closureFor scope X.env=pure cl)
  (I:Inv X ah σ H s) (tb:Tb X.K H) (k:∀f H' s',Inv X ah σ H' s'->aZ H H'->FZ H' f (qF x) params body scope cl->Q (.ref f) s'):
  wq X (eval (.Lambda params body scope pos) X.env) Q E s:=by
 refine kla_eval SE ?_;rw[hq];obtain⟨c,P,ht,o,vs,SF,tf,Qn,tg,WT,SG,tt,lk,ck⟩:=L;have M:=hc c P ht;have hP:=tb x hx c P ht;obtain⟨ps,e,tr,co⟩:=I.hok P _ hP;have C:CodeHd s.heap c P:=⟨o,vs,SF,tf,Qn,tg,WT,SG,tt,I.kIn c o lk,ck⟩;have hg:s.heap.Ns mainGlobals X.mg:=I.mod.glob.keeps I.bk;have nP:∀b,H b=none->b≠P:=λb n z=>by rw[z,hP]at n;cases n
 have WU:mainGlobals≠P:=by
  obtain⟨og,_,_,eg,_⟩:=I.mod.glob;exact nP _ (I.bs _ _ eg).2
 have hb:s.heap.BuiltinsAt X.mg P:=by
  obtain⟨bm,ob,b1,b2,b3,b4,b5,b6⟩:=I.mod.bmain;refine⟨bm,ob,b1,b2,λz=>?_,nP _ (I.bs _ _ b3).2,I.bk _ _ b3,b4,b5,b6⟩;obtain⟨og,es,ep,eg,dg,_⟩:=I.mod.glob;rw[z,eg]at b3;cases b3;rw[dg]at b6;cases b6
 cases hf:codeAmong pos ps.toList with
 |some cv=>
  obtain⟨G,oc,u,ws,t,rfl,hH,hd,hv⟩:=co pos cv hf;refine kla_makeFunctionHit (mg:=X.mg) N7 I.ok.glob hg M C e tr hf hb λO h' tk hk hsz=>?_;have hn:H h'.objs.size=none:=I.hok.fresh hsz;have T:aZ H (upd H h'.objs.size (.frz (kla_obj "<lambda>" (qF x) params body scope cl ((X.mg "__name__").getD .none) G O) (.own h'.objs.size))):=λb u q=>by rw[aG (bf q hn)];exact q
  refine k _ _ _ (I.laid (t':=tk) (λb u q=>vZ _ (hk b u q)) hsz (show bR X.prog X.w _ _ _ (.frz _ (.own h'.objs.size))from ⟨vY _ rfl,_,vY _ rfl⟩)) T ?_;exact⟨_,G,O,_,oc,u,ws,t,aB,T _ _ hH,hd,hv⟩
 |none=>
  refine kla_makeFunction (mg:=X.mg) N7 I.ok.glob hg M C e tr hf WU hb λG O h' tk hx' hge Ay hrec htb=>?_;obtain⟨c2,oc,ws,t,e2,K1,hd,hv⟩:=hrec;cases e2
  have SH:H G=none:=I.hok.fresh hge;have hsz:s.heap.objs.size<=h'.objs.size:=vR hge (le_of_lt Ay);have WV:H h'.objs.size=none:=I.hok.fresh hsz;have WW:G≠h'.objs.size:=vS Ay;let fo:Obj:=kla_obj "<lambda>" (qF x) params body scope cl ((X.mg "__name__").getD .none) G O;let H1:Hp:=upd (upd H G (.frz oc (.own G))) h'.objs.size (.frz fo (.own h'.objs.size));have T:aZ H H1:=λb u q=>by
   show upd _ _ _ b=_;rw[aG (bf q WV),aG (bf q SH)];exact q
  have SJ:H1 G=some (.frz oc (.own G)):=by show upd _ _ _ G=_;rw[aG WW,aB]
  have keep:∀b u,b≠P->s.heap.get? b=some u->(h'.push fo).get? b=some u:=λb u n q=>vZ _ (hx' b u n q);have lt:∀b u,s.heap.get? b=some u->b≠G/\b≠h'.objs.size:=λb u q=>⟨vS (vQ (vX q) hge),vS (vQ (vX q) hsz)⟩;have U:(h'.push fo).get? P=some (tabObj (ps++#[rawInt pos.line,rawInt pos.col,.ref G])):=vZ _ htb;refine k _ H1 _ (I.un (t':=tk) (h':=h'.push fo) ⟨λb u q n _ _=>keep b u (nP b n) q,λb u q n _ _=>⟨u.slots,keep b u (nP b n) q⟩,λb u q n _=>?_,λb u q _=>?_,λb xs q=>T _ _ q,λb ob u q=>T _ _ q,λb u q=>T _ _ q⟩ λb u q=>?_) T ⟨_,G,O,_,oc,_,ws,t,aB,SJ,hd,hv⟩
  ·show upd _ _ _ b=_;rw[aG (lt b u q).2,aG (lt b u q).1];exact n
  ·by_cases z:b=P
   ·subst z;exact⟨_,U⟩
   ·exact⟨u,keep b u z q⟩
  ·by_cases z1:b=h'.objs.size
   ·subst z1;have q':some (HO.frz fo (.own h'.objs.size))=some u:=by rw[←q];exact aB.symm
    cases q'
    exact⟨vY _ rfl,_,vY _ rfl⟩
   ·by_cases z2:b=G
    ·subst z2;rw[SJ]at q;cases q;exact⟨vZ _ K1,_,vZ _ K1⟩
    ·have q':H b=some u:=by
      have:H1 b=H b:=by show upd _ _ _ b=_;rw[aG z1,aG z2]
      rw[←this];exact q
     by_cases z3:b=P
     ·subst z3;rw[hP]at q';cases q';refine⟨_,U,?_,λHS cv' ea=>?_⟩
      ·rw[Array.toList_append];exact TriplesOk_snoc _ _ _ _ tr
      ·rw[Array.toList_append]at ea;rcases Bc _ tr ea with ea|rfl
       ·obtain⟨c3,WX,u3,WY,t3,y1,y2,y3⟩:=co HS cv' ea;exact⟨c3,WX,u3,WY,t3,y1,T _ _ y2,y3⟩
       ·exact⟨G,oc,_,ws,t,rfl,SJ,hd,hv⟩
     ·refine(I.hok b u q').stay (λd v SK r=>keep d v ?_ r) (λd r=>T _ _ r) (λd xs r=>T _ _ r) λd ob v r=>T _ _ r;rcases SK with rfl|r
      ·exact z3
      ·intro z;rw[z,hP]at r;cases r
end
section
variable {P:Program}{w:World}{K:Frag}{mg:SV}{base:Heap}
def c6.fnL {x:Str}{st:Stmt}{N ps:LS}{k:Nat}{g:FS}{h:Heap}(F:c6 K x st)(X:K.In h)(G:h.Ns mainGlobals mg)(S:FnScope N ps (aL st))
  (O:∀(kV doc pm:Value)(an:Option Addr)(cV ct:Value)(us:LU),us.length=ps.length->bindArgs (fnOf x x (dN st) (ca st) (aL st) .none kV doc pm an cV ct) ⟨us,[]⟩=pure (ps.zip us))
  (hb:∀(f:Addr)(cV:Value)(A:Around)(outer:List PySem.Env)(s:Shared)(H:Hp)(E:XK),(∀c P,tabIn K x=some (c,P)->cV=.ref c)->eJ k (A.deeper (envOfC x (aL st) s.heap.objs.size f cV))->tY (ot yc P w K mg base N x (aL st) f cV A outer s H E).nox (ca st) g):
  Fn P w K mg base (k+1) x (aD g ps.length (N.length - ps.length)):=by
 obtain⟨f,fd,T,a⟩:=F;have F2:=T;obtain⟨oc,od,kV,doc,pm,an,cV,ct,lY,rfl,lk,U⟩:=F2.ex;have hc:∀c P,tabIn K x=some (c,P)->cV=.ref c:=λc P e=>by
  unfold tabIn at e;simp only[a,lk]at e;split at e
  ·rename_i c' _;split at e
   ·split at e
    ·cases e;rfl
    ·cases e
   ·cases e
  ·cases e
 have len:∀vs H Q E,Fv K (aD g ps.length (N.length - ps.length)) vs H Q E->vs.length=ps.length:=λvs H Q E h=>by
  obtain⟨B,ds,d,b,sB,i,e,q⟩:=h;unfold aD at e;split at e
  ·rename_i hl;rw[i.length];exact hl
  ·cases e
 refine⟨f,_,ps,ES lk U S len λA outer s H vs Q E hr h=>⟨_,tU.nox (hb f cV A outer s H E hc hr),?_⟩,mg_of X G a,T.kp,T.binds O⟩;have M:=len vs H Q E h;obtain⟨B,ds,d,b,sB,i,e,q⟩:=h;unfold aD at e;rw[if_pos (by rw[←i.length];exact M)]at e;have s0:=qO (N:=N) sB.1 sB.2 i;rw[M]at s0;split at e
 ·rename_i d' b' eg;cases e
  exact⟨B,H,_,_,⟨B,s0⟩,eg,λv H' N' x' i' f'=>q v H' N' x' i' f'⟩
 ·rename_i ρ' eg;cases e
  exact⟨B,H,_,_,⟨B,s0⟩,eg,λσ' H' ⟨N',s'⟩=>q .non H' N' s'.ext .non (by simp)⟩
 ·cases e
end
inductive lZ (X:Cx)(N':List Str)(scope:Scope)(cl:List (Str×Addr)):Nat->List Nat->Prop where
 |nil {j:Nat}(h:N'.length=j):lZ X N' scope cl j []
 |cons {j i:Nat}{r:List Nat}{x:Str}(h1:N'[j]? = some x) (h2:X.N[i]? = some x) (h3:X.env.kindOf x=some .cell∨X.env.kindOf x=some .free)
   (h4:scope.names.lookup x=some .free) (h5:cl.lookup x=X.env.cells.lookup x) (t:lZ X N' scope cl (j+1) r):lZ X N' scope cl j (i::r)
theorem lZ.len:∀ {j:Nat}{cap:LN},lZ X N' scope cl j cap->N'.length=j+cap.length
 |_,_,.nil h=>by rw[h];rfl
 |j,i::r,.cons _ _ _ _ _ t=>by rw[t.len,vE];omega
theorem lZ.get:∀ {j:Nat}{cap:LN}{k i:Nat},lZ X N' scope cl j cap->cap[k]? = some i->∃x,N'[j+k]? = some x/\X.N[i]? = some x/\(X.env.kindOf x=some .cell∨X.env.kindOf x=some .free) /\
  scope.names.lookup x=some .free/\cl.lookup x=X.env.cells.lookup x
 |_,_,_,_,.nil _,e=>by simp at e
 |j,_,0,_,.cons h1 h2 h3 h4 h5 _,e=>by simp at e;subst e;exact⟨_,h1,h2,h3,h4,h5⟩
 |j,_,k+1,i,.cons _ _ _ _ _ t,e=>by
  obtain⟨x,q,r⟩:=t.get (k:=k) (i:=i) (by simpa using e);exact⟨x,by rw[show j+(k+1)=j+1+k by omega];exact q,r⟩
noncomputable abbrev ze (X:Cx)(N':LS)(scope:Scope)(cl:List (Str×Addr))(q:Str)(A:Around)(f c:Addr)(s:Shared)(H:Hp):Cx :=
 { X with A:=A.deeper (envX q scope s.heap.objs.size f (.ref c) cl),N:=N',s₀:=s,H₀:=H,env:=envX q scope s.heap.objs.size f (.ref c) cl,outer:=X.stack,stack:=envX q scope s.heap.objs.size f (.ref c) cl::X.stack,ex:=[],fn:=λ_=>false,calm:=true,pn:=[],xe:=λ_ _=>False }
structure LamSc (X:Cx)(scope:Scope)(cl:List (Str×Addr))(y:Str):Prop where
 clos:closureFor scope X.env=pure cl
 nocell:∀z∈scope.names,z.2≠.cell
 kind:scope.kind=.function
 co:scope.isCoroutine=false
 gen:scope.isGenerator=false
 par:scope.names.lookup y=some .local
 sub:∀x c,cl.lookup x=some c->X.env.cells.lookup x=some c
 has:∀x,scope.names.lookup x=some .free->∃c,cl.lookup x=some c
def Cp (h1:∀z∈scope.names,z.2≠.cell)(h2:scope.kind=.function)(h3:scope.isCoroutine=false)(G:scope.isGenerator=false)(hp:scope.names.lookup y=some .local)
  (M:(scope.names.all λz=>!(z.2 == NameKind.free) || (X.env.cells.lookup z.1).isSome)=true):LamSc X scope (dX scope.names X.env.cells []) y:=by
 have h4:∀z∈scope.names,z.2=.free->(X.env.cells.lookup z.1).isSome=true:=λz hz e=>by
  have:=uR M z hz;rw[e]at this;simpa using this
 exact⟨u0 scope.names [] h4,h1,h2,h3,G,hp,λx c e=>mN scope.names [] (λy d q=>by cases q) e,λx h=>by
  have:=mO (x:=x) scope.names [] (fX h) (h4 _ (fX h) rfl);exact uU this⟩
section
variable {X:Cx}{ah:AO}{σ:St}{H:Hp}{s:Shared}{A:Around}{N':LS}{scope:Scope}{cl:List (Str×Addr)}{q y:Str}{cap:LN}
def Jp (S:LamSc X scope cl y)(N0:N'[0]? = some y)(cp:lZ X N' scope cl 1 cap)(I:Inv X ah σ H s)(hA:A.frames=some X.stack)(hh:A.handled=none)(r:be v u)
  (Nx:h₁.Ns s.heap.objs.size (λx=>[(y,u)].reverse.lookup x)) (hk:∀b o,s.heap.get? b=some o->h₁.get? b=some o):
  Inv (ze X N' scope cl q A f c s H) [] (some v::tZ 0 cap σ) H { s with heap:=h₁,toks:=tk }:=by
 have M:∀b:Addr,b∉(ze X N' scope cl q A f c s H).ex:=λb z=>absurd (show b∈([]:List Addr)from z) (by simp);refine⟨⟨I.ok.mod,S.kind,rfl,rfl,vT _,λx z d U e2=>I.ok.inj x z d (S.sub _ _ U) (S.sub _ _ e2),λx hx=>?_,(λx d e=>by cases e),λ_=>hh,Around.frames_deeper hA,.inr ⟨rfl,rfl⟩,λb z=>absurd z (M b),I.bs,vR I.ok.bsz I.sz,λb _ _=>M b,λb z=>absurd z (M b),I.stack,I.stkFree⟩,
  rfl,I.bare,Un.kept hk,⟨_,Nx,λi x v' U e2 e3=>?_⟩,λx d e=>?_,I.hok.fresh (vT _),λx d e=>I.freeC x d (S.sub _ _ e),λp hp=>absurd (show p∈([]:AO)from hp) (by simp),I.hok.kept hk,?_⟩
 ·have hx':scope.names.lookup x=some .cell∨scope.names.lookup x=some .free:=hx;rcases hx' with hx'|hx'
  ·exact absurd rfl (S.nocell _ (fX hx'))
  ·exact S.has x hx'
 ·cases i with
  |zero=>
   have G:N'[0]? = some x:=U;rw[N0]at G;cases G;have O:some v=some v':=by simpa using e2
   cases O
   exact⟨u,r,.inl ⟨S.par,by simp⟩⟩
  |succ k=>
   have O:(tZ 0 cap σ)[k]? = some (some v'):=by simpa using e2
   obtain⟨k',i',Lv,g1,T⟩:=wS O;have:k=k':=by omega
   subst this;obtain⟨x',n1,n2,n3,n4,n5⟩:=cp.get g1;have:x'=x:=by
    have G:N'[k+1]? = some x:=U;rw[show 1+k=k+1 by omega]at n1;rw[n1]at G;exact vK G
   subst this;have WZ:σ[i']? = some (some v'):=by
    cases z:σ[i']? with
    |none=>rw[z]at T;cases T
    |some w=>rw[z]at T;cases w with
     |none=>cases T
     |some w=>cases T;rfl
   obtain⟨m,_,hl⟩:=I.loc;obtain⟨u',ru,lk⟩:=hl i' x' v' n2 WZ (by
    rcases n3 with n3|n3
    ·exact .inr (.inl n3)
    ·exact .inr (.inr n3))
   refine⟨u',ru,.inr ⟨.inr n4,?_⟩⟩;rcases lk with⟨l1,_⟩|⟨_,d,l2,l3⟩
   ·rcases n3 with n3|n3<;>(rw[l1]at n3;cases n3)
   ·obtain⟨ob,ho,hd⟩:=l3;exact⟨d,by show cl.lookup x'=_;rw[n5];exact l2,ob,hk _ _ ho,hd⟩
 ·obtain⟨w,ob,ho,hd⟩:=I.cell x d (S.sub _ _ e);exact⟨w,ob,hk _ _ ho,hd⟩
 ·have:=cp.len;show(some v::tZ 0 cap σ).length=N'.length;unfold tZ;rw[this];simp;omega
def Jq (S:LamSc X scope cl y)(N0:N'[0]? = some y)(cp:lZ X N' scope cl 1 cap)(I:Inv X ah σ H s)
  (hA:A.frames=some X.stack) (hh:A.handled=none) (G:A.depth<recursionLimit) (lv:FZ H f q params body scope cl)
  (M:∀pm c T u,bindArgs (kla_fn "<lambda>" q params body scope cl pm (.ref c) T) ⟨[u],[]⟩=pure [(y,u)])
  (hb:∀(f c:Addr)(s:Shared)(H:Hp),JE (ze X N' scope cl q A f c s H) body fb)
  (rep:fO X.K B σ ρ) (sB:aZ B H) (r:be v u) (i:Is X.K B v d) (e:fb (some (d,false)::dq 0 cap ρ)=some (d',b')) (qf:Fin X.K B H d' b' Q):
  wpAny (model X.prog X.w) A (call (.ref f) [u]) (EP X ah σ Q) (λ_ _=>False) s:=by
 obtain⟨pm,c,T,uf,oc,u',ws,t,hf,hc,hd,hv⟩:=lv;have ho:=(I.hok f _ hf).1;have K1:=(I.hok c _ hc).1;refine wpAny_call (codeAny_mono (R:=λr s'=>CR yc X.stack X.prog X.w H s Q (λ_ _ _=>False) r s') ?_ λr s' hq=>?_)
 ·refine kla_callFunE G ho rfl S.co S.gen rfl ⟨c,oc,ws,t,rfl,K1,hd,hv⟩ ?_;rw[M];refine wY (wpAny_newFunctionEnv S.nocell (λz hz=>by rw[uT hz];exact S.par) (λU Nx hsb=>⟨I.nolimit.fresh _ hsb,?_⟩) S.kind);have O:∀b o,s.heap.get? b=some o->U.get? b=some o:=λb o e=>hsb.extBut b o (vS (vX e)) (vZ _ e);have J:=Jp (f:=f) (c:=c) (q:=q) (tk:=s.toks+1) S N0 cp I hA hh r Nx O;refine kla_codeExpr (wpAny_mono (hb f c s H [] _ _ H Q J ⟨B,_,d',b',sB,⟨rep.tb,λj e0 b0 z=>?_⟩,e,qf⟩) (λw s' hw=>?_) λ_ _ z=>z.elim)
  ·cases j with
   |zero=>
    have z':some (d,false)=some (e0,b0):=by simpa using z
    cases z'
    exact⟨v,rfl,i⟩
   |succ j=>
    obtain⟨w,h1,h2⟩:=(rep.caps (nT:=0) (cap:=cap)).at' j e0 b0 (by simpa using z);exact⟨w,by simpa using h1,h2⟩
  ·obtain⟨v',H',J',rv,qv⟩:=hw;exact⟨v',H',J'.os,J'.bare,J'.base,J'.hok,rv,qv⟩
 ·cases r with
  |error e=>exact False.elim hq
  |ok fl=>
   cases fl with
   |ret w=>exact I.after hq
   |next=>exact False.elim hq
   |brk=>exact False.elim hq
   |cont=>exact False.elim hq
end
end DL
namespace DL
open PySem PySem.Spec PySem.W PyProof.Rows L2
section
variable {X:Cx}{ah:AO}{σ:St}{H:Hp}{s:Shared}{h':Heap}{t':Nat}
def oA (I:Inv X ((p,o)::ah) σ H s):∀x c,X.env.cells.lookup x=some c->c≠p:=λx c e z=>by
 have G:=I.pin (p,o) (mY _ mX);obtain⟨v,ob,M,hd⟩:=I.cell x c e;rw[z,G.1]at M;cases M;exact G.2.2.2.2 v hd
def kJ (I:Inv X (p::ah) σ H s):Inv X ah σ H s:=I.pins_of λq hq=>I.pin q (mY _ (mZ _ hq))
def iD (I:Inv X ((p,o)::ah) σ H s)(h0:X.s₀.heap.objs.size<=p)(hp:∀q∈X.pn++ah,q.1≠p)(k:∀b u,b≠p->s.heap.get? b=some u->h'.get? b=some u)(M:h'.get? p=some o')(O:∀v,o'.data≠.cell v):
  Inv X ((p,o')::ah) σ H { s with heap:=h',toks:=t' }:=by
 have G:=I.pin (p,o) (mY _ mX);have J:=(kJ I).turned (t':=t') k G.2.1 G.2.2.1 (.inr h0) (oA I) hp;refine J.pins_of λq hq=>?_;rcases vP hq with rfl|hq
 ·exact⟨M,G.2.1,G.2.2.1,G.2.2.2.1,O⟩
 ·exact J.pin q (mY _ hq)
def qo (I:Inv X ah σ H s)(k:∀b u,s.heap.get? b=some u->h'.get? b=some u)(hs:s.heap.objs.size<=p)(G:h'.get? p=some o)(M:∀v,o.data≠.cell v):Inv X ((p,o)::ah) σ H { s with heap:=h',toks:=t' }:=by
 have J:=I.kept (t':=t') k;refine J.pins_of λq hq=>?_;rcases vP hq with rfl|hq
 ·exact⟨G,I.hok.fresh hs,ne_of_gt (vQ I.lt hs),I.nofs hs,M⟩
 ·exact J.pin q (mY _ hq)
def Jr (I:Inv X ((p,o)::ah) σ H s)(h0:X.s₀.heap.objs.size<=p)(hp:∀q∈X.pn++ah,q.1≠p)(k:∀b u,b≠p->s.heap.get? b=some u->h'.get? b=some u)(U:∃u,h'.get? p=some u)
  (new:bR X.prog X.w (upd H p ob) h' p ob):Inv X ah σ (upd H p ob) { s with heap:=h',toks:=t' }:=by
 have G:=I.pin (p,o) (mY _ mX);have hn:=G.2.1;have hn:H p=none:=hn;have cs:=oA I;refine(kJ I).step (g':=s.gens) (d':=s.drawn) (ch:=[p]) (λb hb=>?_) (λb u _ _ hc e _=>k b u (λz=>hc (by simp[z])) e) (λb u _ _ hc e _=>⟨u.slots,k b u (λz=>hc (by simp[z])) e⟩) (λb u hc _ n=>by rw[aG (λz=>hc (by simp[z]))];exact n)
  (λb u hc e=>⟨u,k b u (λz=>hc (by simp[z])) e⟩) (λb xs e=>by rw[aG (bf e hn)];exact e) (λb u w e=>by rw[aG (bf e hn)];exact e) (λb q e=>by rw[aG (bf e hn)];exact e) (λm hm=>?_) (λb u e=>?_) I.bare
 ·have z:b=p:=by simpa using hb
  subst z;exact⟨.inr h0,G.2.2.1,cs,hp⟩
 ·obtain⟨M,es,O,T,r⟩:=hm;exact⟨M,es,O,k _ M (λz=>G.2.2.1 z.symm) T,r⟩
 ·by_cases z:b=p
  ·subst z;rw[aB]at e;cases e;exact new
  ·rw[aG z]at e;refine(I.hok b u e).stay (λc v hc q=>k c v ?_ q) (λc q=>?_) (λc xs q=>?_) λc w xs q=>?_
   ·rcases hc with rfl|hc
    ·exact z
    ·exact bf hc hn
   ·rw[aG (bf q hn)];exact q
   ·rw[aG (bf q hn)];exact q
   ·rw[aG (bf q hn)];exact q
end
def Cq (X:Cx)(A:Around)(σ:St)(G:Value)(B M:Hp)(O:D->Option D):Prop :=
 ∀(ah:AO)(s:Shared)(H N:Hp)(v:V)(u:Value)(d d':D),Inv X ah σ H s->aZ M H->aZ B N->aZ N H->Is X.K N v d->be v u->O d=some d' ->
  wpAny (model X.prog X.w) A (call G [u]) (EP X ah σ λT H'=>∃N',Ext N N' H H'/\Is X.K N' T d') (λ_ _=>False) s
def JK (X:Cx)(A:Around)(e:Expr)(O:Env->D->Option D):Prop:=∀(ah:AO)(s:Shared)(σ:St)(H B:Hp)(ρ:Env)(Q:QV)(E:QV),Inv X ah σ H s->aZ B H->fO X.K B σ ρ ->
 (∀M G s1,Inv X ah σ G s1->aZ H G->Cq X A σ (.ref M) B G (O ρ)->Q (.ref M) s1)->wq X (eval e X.env) Q E s
section
variable {X:Cx}{A:Around}
@[simp] def rm (cap:LN)(G:FE):Env->D->Option D:=λρ d=>(G (some (d,false)::dq 0 cap ρ)).map (·.1)
def xC (hx:x∈mJ)(L:Bb X.K x)(hc:∀c P,tabIn X.K x=some (c,P)->X.env.code=.ref c)(hq:X.env.qual ++ "<lambda>" = qF x)
  (M:defaultsOf params X.env=([],[])) (S:LamSc X scope (dX scope.names X.env.cells []) y) (N0:N'[0]? = some y) (cp:lZ X N' scope (dX scope.names X.env.cells []) 1 cap) (hA:A.frames=X.A.frames) (O:eJ (k+1) A)
  (G:∀pm c T u,bindArgs (kla_fn "<lambda>" (qF x) params body scope (dX scope.names X.env.cells []) pm (.ref c) T) ⟨[u],[]⟩=pure [(y,u)])
  (hb:∀(f c:Addr)(s:Shared)(H:Hp),eJ k (ze X N' scope (dX scope.names X.env.cells []) (qF x) A f c s H).A->JE (ze X N' scope (dX scope.names X.env.cells []) (qF x) A f c s H) body fb):JK X A (.Lambda params body scope pos) (rm cap fb):=by
 intro ah s σ H B ρ Q E I sB rep kk;refine Ga hx L hc hq M S.clos I (rep.tb.mono sB) λf H1 s1 I1 sm lv=>kk f H1 s1 I1 sm ?_;intro U s' H' N v u d d' I' m1 m2 m3 iv r e;simp only[rm]at e;obtain⟨⟨d2,b2⟩,e1,e2⟩:=oY e;cases e2
 exact Jq S N0 cp I' (hA.trans I'.ok.frames) O.hd O.depth (lv.mono m1) G (λf c s H=>hb f c s H (O.deeper _)) (rep.mono m2) m3 r iv e1 λv' H2 N2 x2 i2 _=>⟨N2,x2,i2⟩
@[simp] noncomputable def uh (g:LD->OB):Env->D->Option D:=λ_ d=>(g [d]).map (·.1)
def Cr (F:Fn X.prog X.w X.K X.mg X.base k x g)(hr:eJ k A)(hA:A.frames=X.A.frames)(hg:Gl X x:=by rfl)(M:(x == ("__debug__" : Str))=false:=by decide):JK X A (.Name x p) (uh g):=by
 intro ah s σ H B ρ Q E I sB rep kk;obtain⟨ad,fd,ps,U,hm,hk,hb⟩:=F.ex;refine wC I hg hm ?_ M;refine kk ad H s I (.refl H) ?_;intro O s' H' N v u d d' T m1 m2 m3 iv r e;simp only[uh]at e;obtain⟨⟨d2,b2⟩,e1,e2⟩:=oY e;cases e2
 have sp:Fv X.K g [v] H' (λv' H2=>∃N',Ext N N' H' H2/\Is X.K N' v' d2) (λ_ _ _=>False):=⟨N,[d],d2,b2,⟨m3,rep.tb.mono m2⟩,.cons iv .nil,e1,λv' H2 N2 x2 i2 _=>⟨N2,x2,i2⟩⟩;have hl:[u].length=ps.length:=by have:=U.len _ _ _ _ sp;simpa using this
 have G:=T.env0;have bb:=hb s' [u] T.kIn (by simpa using hl);rw[uQ]at bb;refine wpAny_call (codeAny_mono (U.run A X.stack s' H' ⟨[u],[]⟩ [u] [v] _ (λ_ _ _=>False) hr ⟨hA.trans G.frames,G.mod,G.bs,G.bsz,G.funs,G.frf,G.hok,G.bare⟩ bb (.cons r .nil) sp) λr s' hq=>?_);cases r with
 |error e=>exact False.elim hq
 |ok fl=>
  cases fl with
  |ret w=>exact T.after hq
  |next=>exact False.elim hq
  |brk=>exact False.elim hq
  |cont=>exact False.elim hq
end
noncomputable def j4 (f:D->Option D):LD->Option LD
 |[]=>some []
 |d::ds=>(f d).bind λx=>(j4 f ds).map (x :: ·)
theorem kK:∀ {ds ks:LD},j4 f ds=some ks->ks.length=ds.length
 |[],_,h=>by simp only[j4]at h;cases h;rfl
 |d::ds,_,h=>by
  simp only[j4]at h;obtain⟨a,h1,h⟩:=oX h;obtain⟨r,h2,h⟩:=oY h;subst h;simp[kK h2]
theorem ro:∀ {ds ks:LD},j4 f ds=some ks->∀ {i:Nat}{d:D},ds[i]? = some d->∃k,ks[i]? = some k/\f d=some k
 |[],_,h,i,d,e=>by simp at e
 |d::ds,_,h,0,e,q=>by
  simp only[j4]at h;obtain⟨a,h1,h⟩:=oX h;obtain⟨r,h2,h⟩:=oY h;subst h;simp at q;subst q;exact⟨a,by simp,h1⟩
 |d::ds,_,h,i+1,e,q=>by
  simp only[j4]at h;obtain⟨a,h1,h⟩:=oX h;obtain⟨r,h2,h⟩:=oY h;subst h;obtain⟨k,G,M⟩:=ro h2 (i:=i) (d:=e) (by simpa using q);exact⟨k,by simpa using G,M⟩
structure KK (X:Cx)(A:Around)(kd:List D->Option (List (List At)))(ok:List (List At)->Bool):Prop where
 len:∀ {ds:List D}{ks:List (List At)},kd ds=some ks->ks.length=ds.length
 ask:∀ {ah:List (Addr×Obj)}{σ:St}{H:Hp}{s:Shared}(_:Inv X ah σ H s) {ys:List V}{ds:List D}{ks:List (List At)}{its:List Value},b7 ys its->IsL X.K H ys ds->kd ds=some ks->ok ks=true->eO ks=true ->
  (0<ks.length->∀ {E:Value->Shared->Prop}{Q:SortKind->Shared->Prop},Q (tuples' true) s->wpAny (model X.prog X.w) A (keyKind' its.toArray) Q E s) /\
  ∀(i j:Nat)(C:Bool->Shared->Prop)(s1:Shared),i<ks.length->j<ks.length->s1=s->(∀s',s'=s->C (rf (Ic ks) i j) s')->kas_ask X.prog X.w A (tuples' true) its i j C s1
def Gb:KK X A dO fK:=⟨l8,λI _ _ _ _ r i e hf hc=>have hp:=qm I r i e;⟨λhn _ _ q=>FW hp hf hn q,Jn hc hp⟩⟩
section
variable {X:Cx}{ah:AO}{σ:St}{s:Shared}
theorem vi (r:be x u):∀ {vs:LV}{us:LU},b7 vs us->b7 (vs++[x]) (us++[u])
 |_,_,.nil=>.cons r .nil
 |_,_,.cons h t=>.cons h (vi r t)
def dw:∀v,(Obj.mk c od (.seq its n) sl).data≠.cell v:=λv z=>by cases z
def Bd 
  (I:Inv X ((a,seqObj "list" its.toArray n)::ah) σ H s) (h0:X.s₀.heap.objs.size<=a) (hp:∀q∈X.pn++ah,q.1≠a) (Ij:Cq X A σ qv B H kf) (rv:b7 vs its) (iv:IsL X.K B vs ds) (sB:aZ B H)
  (M:KK X A kd ok) (em:j4 kf ds=some jE) (ek:kd jE=some ks) (hc:eO ks=true) (hf:ok ks=true) (Oc:its.length<64)
  (h:∀(p:Array Nat)(s':Shared)(H' N:Hp),qh its.length p->Up (Ic ks) p its.length->Inv X ah σ (upd H' a (.lst (p.toList.map λi=>vs.getD i .non))) s'->Ext B N H H'->H' a=none->P (.done (.ret .none)) s'):
  wpAny (model X.prog X.w) A (ksk_tree a qv false) P E s:=by
 have pa:=I.pin (a,seqObj "list" its.toArray n) (mY _ mX)
 have Nw:vs.length=its.length:=rv.length
 have Ob:ds.length=vs.length:=iv.length.symm
 have Xa:jE.length=ds.length:=kK em
 have Xb:ks.length=jE.length:=M.len ek
 have hz:its.length<=sizeLine:=by rw[sizeLine_eq];omega
 have Ye:H a=none:=pa.2.1
 obtain⟨T,Oa⟩:∃T,(s.heap.update a (Obj.mapSeq λ_=>(#[]:AV))).get? a=some (seqObj "list" #[] T):=⟨_,get?_update_seq pa.1 λ_=>#[]⟩
 have u1:=vW s.heap a (Obj.mapSeq λ_=>(#[]:AV))
 have I1:Inv X ((a,seqObj "list" #[] T)::ah) σ H { s with heap:=s.heap.update a (Obj.mapSeq λ_=>(#[]:AV)) }:=iD (t':=s.toks) I h0 hp (λb u n q=>(u1.2 b n).trans q) Oa dw
 let h2:Heap:=(s.heap.update a (Obj.mapSeq λ_=>(#[]:AV))).push (seqObj "tuple" its.toArray 0)
 have I2:Inv X ((a,seqObj "list" #[] T)::ah) σ H { s with heap:=h2 }:=I1.kept (t':=s.toks) λb u q=>vZ _ q
 let kS:Addr:=h2.objs.size
 have I3:Inv X ((kS,seqObj "list" #[] 0)::(a,seqObj "list" #[] T)::ah) σ H { s with heap:=h2.push (seqObj "list" #[] 0) }:=qo (s:={ s with heap:=h2 }) (t':=s.toks) I2 (λb u q=>vZ _ q) (vT _) (vY _ rfl) dw
 have k0:X.s₀.heap.objs.size<=kS:=I2.sz
 have kp:∀q∈X.pn++((a,seqObj "list" #[] T)::ah),q.1≠kS:=λq hq=>vS (vX (I2.pin q hq).1)
 have Yf:kS≠a:=λz=>kp (a,seqObj "list" #[] T) (mY _ mX) z.symm
 unfold ksk_tree
 refine wX (listItems_at pa.1 rfl ?_)
 refine wX (listUpdate_at pa.1 rfl ?_ (by simpa using hz) (uN _))
 refine wX (seqEpoch_at Oa rfl ?_)
 refine wX (wpAny_newTuple ?_ (by show its.length<=sizeLine;exact hz))
 refine wX (wpAny_newList ?_ (uN _))
 refine wpAny_holding ?_
 show wpAny (model X.prog X.w) A (ksk_rest a qv false its.toArray T (.ref kS)) P E { s with heap:=h2.push (seqObj "list" #[] 0) }
 unfold ksk_rest
 refine wX (wpAny_rule ?_)
 rw[List.forIn_toArray]
 refine wX (ksk_fold (λi s'=>∃(H' N:Hp)(kA:AV)(e:Nat)(aM:LV),Inv X ((kS,seqObj "list" kA e)::(a,seqObj "list" #[] T)::ah) σ H' s'/\Ext B N H H'/\b7 aM kA.toList/\IsL X.K N aM (jE.take i)) its 0 _
  ⟨H,B,#[],0,[],I3,.refl sB,.nil,by simpa using IsL.nil⟩ ?step ?done)
 case step=>
  rintro j u s' hu ⟨H',N,kA,e,aM,J,x1,rk,ik⟩
  simp only[Nat.zero_add]at ik ⊢
  have hj:j<its.length:=(vV hu).1
  obtain⟨d,hd⟩:∃d,ds[j]? = some d:=⟨_,vU (by omega)⟩
  obtain⟨v,hv,Qo⟩:=iv.get hd
  obtain⟨kd,Xc,SM⟩:=ro em hd
  obtain⟨u',Qp,ru⟩:=rv.get hv
  rw[hu]at Qp;cases Qp
  have kl:kA.size=j:=by
   have z1:=rk.length
   have z2:=ik.length
   rw[length_take]at z2
   rw[vG]at z1
   exact z1.symm.trans (z2.trans (Nat.min_eq_left (by omega)))
  refine wX (wpAny_attempt (wpAny_mono (Ij _ s' H' N v u d kd J x1.hh x1.bn x1.nh (Qo.mono x1.bn) ru SM) (λw Qm hw=>?_) λ_ _ hF=>hF.elim))
  obtain⟨v',Xd,J',Xe,N',x2,i2⟩:=hw
  have pk:=J'.pin (kS,seqObj "list" kA e) (mY _ mX)
  obtain⟨c2,Od⟩:∃c2,(Qm.heap.update kS (Obj.mapSeq (·.push w))).get? kS=some (seqObj "list" (kA.push w) c2):=⟨_,get?_update_seq pk.1 (·.push w)⟩
  have u2:=vW Qm.heap kS (Obj.mapSeq (·.push w))
  refine wX (listUpdate_at pk.1 rfl ?_ (by rw[sizeLine_eq];omega) (vR (le_of_eq (Array.size_push ..)) (by rw[sizeLine_eq];omega)))
  refine wY ⟨rfl,Xd,N',kA.push w,c2,aM++[v'],iD (t':=Qm.toks) J' k0 kp (λb q n z=>(u2.2 b n).trans z) Od dw,x1.trans x2,?_,?_⟩
  ·rw[toList_push];exact vi Xe rk
  ·rw[take_add_one,Xc];exact(ik.mono x2.bn).append (.cons i2 .nil)
 case done=>
  rintro s' ⟨H',N,kA,e,aM,J,x1,rk,ik⟩
  have U8:IsL X.K N aM jE:=by
   have z:jE.take (0+its.length)=jE:=List.take_of_length_le (by omega)
   rw[z]at ik;exact ik
  have pk:=J.pin (kS,seqObj "list" kA e) (mY _ mX)
  have Xf:=J.pin (a,seqObj "list" #[] T) (mY _ (mZ _ mX))
  have Sd:H' a=none:=Xf.2.1
  have kz:kA.toList.length=its.length:=by rw[←rk.length,U8.length];omega
  have U9:kA.size=its.length:=by rw[←vG];exact kz
  refine wX (listItems_at pk.1 rfl ?_)
  have UA:=M.ask J rk (U8.mono x1.nh) ek hf hc
  -- the end of the sort,for a permutation p
  have Qq:∀(st:SortSt)(p:Array Nat),arrOf st=p.map (kas_item (kA.toList.toArray.zip its.toArray))->failedOf st=none->qh its.length p->Up (Ic ks) p its.length ->
    wpAny (model X.prog X.w) A (ksk_tail a false T (.ref kS) st) P E s':=λst p ea ef ap up=>by
   have eo:(arrOf st).map (·.2)=List.toArray (p.toList.map λi=>its.getD i Value.none):=kat_snds kz ea
   have HW:∀i∈p.toList,i<vs.length:=λi hi=>by
    have:=mem_range.mp (ap.perm.mem_iff.mp hi)
    omega
   obtain⟨c3,Xg⟩:∃c3,(s'.heap.update kS (Obj.mapSeq λ_=>(#[]:AV))).get? kS=some (seqObj "list" #[] c3):=⟨_,get?_update_seq pk.1 λ_=>#[]⟩
   have u3:=vW s'.heap kS (Obj.mapSeq λ_=>(#[]:AV))
   have J3:=kJ (iD (t':=s'.toks) J k0 kp (λb q n z=>(u3.2 b n).trans z) Xg dw)
   have SN:=J3.pin (a,seqObj "list" #[] T) (mY _ mX)
   obtain⟨c4,UB⟩:∃c4,((s'.heap.update kS (Obj.mapSeq λ_=>(#[]:AV))).update a (Obj.mapSeq λ_=>(arrOf st).map (·.2))).get? a=some (seqObj "list" ((arrOf st).map (·.2)) c4):=⟨_,get?_update_seq SN.1 λ_=>(arrOf st).map (·.2)⟩
   have u4:=vW (s'.heap.update kS (Obj.mapSeq λ_=>(#[]:AV))) a (Obj.mapSeq λ_=>(arrOf st).map (·.2))
   have so:((arrOf st).map (·.2)).size=its.length:=by rw[eo];simp only[vH,vI,vG,ap.size]
   unfold ksk_tail
   try dsimp only
   refine wX (listUpdate_at pk.1 rfl ?_ (by rw[U9,sizeLine_eq];omega) (uN _))
   refine wX (wpAny_letGo ?_)
   refine wX (seqEpoch_at SN.1 rfl ?_)
   refine wX (listUpdate_at SN.1 rfl ?_ (uN _) (by simp only[uV,if_false];rw[so,sizeLine_eq];omega))
   rw[ef]
   simp only[bne_self_eq_false,uV,if_false]
   refine wY (h p _ H' N ap up (Jr (s:={ s' with heap:=s'.heap.update kS (Obj.mapSeq λ_=>(#[]:AV)) }) (t':=s'.toks) J3 h0 hp (λb q n z=>(u4.2 b n).trans z) ⟨_,UB⟩ ?_) x1 Sd)
   refine⟨by rw[vI,vG,ap.size];exact hz,p.toList.map λi=>its.getD i Value.none,c4,vh rv p.toList HW,?_⟩
   rw[←eo];exact UB
  unfold ksk_end
  try dsimp only
  simp only[uV,if_false]
  have Xh:kA=kA.toList.toArray:=by simp
  by_cases O:its.toArray.size<2
  ·rw[if_pos O,if_pos O]
   refine wX (wY ?_)
   rw[StateT.run_pure]
   refine wX (wY ?_)
   have UC:its.length<2:=by simpa using O
   refine Qq _ (List.toArray (List.range its.length)) ?_ rfl ⟨by simp,by simp⟩ ?_
   ·show kA.zip its.toArray=_
    have:=kas_range (kA.toList.toArray.zip its.toArray)
    rw[show(kA.toList.toArray.zip its.toArray).size=its.length by simp[U9]]at this
    rw[this]
   ·intro i j hij hj
    have:i=j:=by omega
    subst this;exact le_refl _
  ·rw[if_neg O,if_neg O]
   have SO:2<=its.length:=by simp at O;omega
   rw[Xh]
   refine wX (UA.1 (by omega) ?_)
   obtain⟨p,r1,r2,r3⟩:=FU (n:=its.length) (rk:=Ic ks) (by omega)
   refine wX (wpAny_mono (kat_run (E:=E) (ks:=kA.toList) (vs:=its) (κ:=tuples' true) (s:=s') (Q:=λU s2=>s2=s'/\arrOf U=p.map (kas_item (kA.toList.toArray.zip its.toArray))/\failedOf U=none)
    (G:=λp' s2=>p'=p/\s2=s') kz SO Oc (λp' U s2 _ e2 e3 e4=>by
     obtain⟨rfl,rfl⟩:=e4
     exact⟨rfl,e2,e3⟩) (Run.wp (λs2=>s2=s') (λi j C s2 hi hj e hC=>UA.2 i j C s2 (by omega) (by omega) e hC) r1 rfl λs2 e=>⟨rfl,e⟩)) (λr s2 hr=>?_) λ_ _ z=>z)
   obtain⟨⟨⟩,U⟩:=r
   obtain⟨rfl,e2,e3⟩:=hr
   exact Qq U p e2 e3 r2 r3
end
theorem zf {α G:Type}{f:α->G}:∀ {l:List α},(l.map f).Nodup->l.Nodup
 |[],_=>nodup_nil
 |a::l,h=>by
  rw[uY,nodup_cons]at h;exact nodup_cons.mpr ⟨λz=>h.1 (uS ⟨a,z,rfl⟩),zf h.2⟩
def j5 (ks:List (List At))(ds:LD):LD:=(eN (λp:List At×D=>cQ p.1) (ks.zip ds)).map (·.2)
def Gc {α T:Type}(d:α)(e:T):∀ {M:List α}{G:List T},M.length=G.length->(List.range G.length).map (λi=>(M.getD i d,G.getD i e))=M.zip G:=λ{M G} h=>by
 apply ext_getElem?;intro i;by_cases hi:i<G.length
 ·have O:i<M.length:=by omega
  have:=(getElem?_zip_eq_some (z:=(M[i],G[i]))).mpr ⟨vU O,vU hi⟩;rw[this];simp[hi,O]
 ·simp[hi,h]
def Js {α O:Type}{G:List α}{M:List O}(nd:G.Nodup){a:α}{b c:O}(h1:(a,b)∈G.zip M)(h2:(a,c)∈G.zip M):b=c:=by
 obtain⟨i,hi⟩:=mem_iff_getElem?.mp h1;obtain⟨j,hj⟩:=mem_iff_getElem?.mp h2;obtain⟨i1,i2⟩:=getElem?_zip_eq_some.mp hi;obtain⟨U,T⟩:=getElem?_zip_eq_some.mp hj;obtain⟨li,ei⟩:=vV i1;obtain⟨lj,ej⟩:=vV U;have:i=j:=(List.getElem_inj nd).mp (ei.trans ej.symm);subst this;rw[i2]at T;exact vK T
def Be {ds:LD}{ks:List (List At)}{p:Array Nat}(hl:ks.length=ds.length)(hc:eO ks=true)(nd:ks.Nodup)(G:qh ds.length p)(U:Up (Ic ks) p ds.length):p.toList.map (λi=>ds.getD i .non)=j5 ks ds:=by
 unfold j5;have e:p.toList.map (λi=>(ks.getD i [],ds.getD i .non))=eN (λp:List At×D=>cQ p.1) (ks.zip ds):=by
  apply kI
  ·intro x hx y hy e;have mx:=(of_mem_zip hx).1;have my:=(of_mem_zip hy).1;have:=o9 hc mx my e;obtain⟨k1,d1⟩:=x;obtain⟨k2,d2⟩:=y;have z:k1=k2:=this;subst z;rw[Js nd hx hy]
  ·have:=G.perm.map (λi=>(ks.getD i [],ds.getD i D.non));rw[Gc [] D.non hl]at this;exact this
  ·rw[List.pairwise_iff_getElem];intro i j hi hj M;have hsz:=G.size;have O:i<p.size:=by simpa using hi
   have T:j<p.size:=by simpa using hj
   have:=U i j (le_of_lt M) (by omega);unfold cy Ic at this;have gi:p.getD i 0=p[i]:=by rw[getD_eq_getD_getElem?,getElem?_eq_getElem O];rfl
   have gj:p.getD j 0=p[j]:=by rw[getD_eq_getD_getElem?,getElem?_eq_getElem T];rfl
   have lj:=G.lt (k:=j) (by omega);have mj:ks.getD (p.getD j 0) []∈ks:=by
    have h':p.getD j 0<ks.length:=by omega
    rw[vF,vU h'];exact getElem_mem h'
   have nl:¬cQ (ks.getD (p.getD j 0) [])<cQ (ks.getD (p.getD i 0) []):=λz=>by
    have:=Ck (cs:=ks.map cQ) (uS ⟨_,mj,rfl⟩) z;omega
   simp only[List.getElem_map,Array.getElem_toList];unfold Ib;rw[←gi,←gj];exact nl
 rw[←e,uP];rfl
@[simp] def xD (kd:LD->Option (List (List At)))(ok:List (List At)->Bool)(f:FE)(M:Env->D->Option D):FE:=λρ=>(f ρ).bind λx=>match x.1 with
 |.lst ds=>(j4 (M ρ) ds).bind λG=>(kd G).bind λks=>if ks.length<64/\eO ks=true/\ok ks=true/\(ks.map cQ).Nodup then some (.lst (j5 ks ds),true)else none
 |_=>none
@[simp] abbrev rq:FE->(Env->D->Option D)->FE:=xD dO fK
section
variable {X:Cx}{e ke:Expr}{p pos kp:Pos}
def Gd {kd:LD->Option (List (List At))}{ok:List (List At)->Bool}(M:KK X X.A.in1.in1 kd ok){f:FE}{kf:Env->D->Option D}(hm:X.mg "sorted" = none)(he:JE X e f)(hk:JK X X.A.in1.in1 ke kf)(hg:Gl X "sorted":=by rfl)
  (SQ:starEach [e] X.env=[(false,eval e X.env)]:=by rfl) (SR:backTo pos (starEach [e] X.env)=(false,eval e X.env)::backTo pos (starEach [] X.env):=by rfl) (O:(backTo pos (starEach [e] X.env)).any (·.1)=false:=by rfl)
  (HX:(backToKw pos (keywordEach [⟨some "key",ke,kp⟩] X.env)).all (·.1.isSome)=true:=by rfl) (SS:(backToKw pos (keywordEach [⟨some "key",ke,kp⟩] X.env)).any (·.1.isNone)=false:=by rfl)
  (SU:(backToKw pos (keywordEach [⟨some "key",ke,kp⟩] X.env)).filterMap (·.1)=[("key" : Str)]:=by rfl):
  JE X (.Call (.Name "sorted" p) [e] [⟨some "key",ke,kp⟩] pos) (xD kd ok f kf):=by
 intro ah s σ H Q I h;obtain⟨B,ρ,d,b,sB,rep,G,q⟩:=h;obtain⟨⟨xd,xb⟩,ex,G⟩:=oX G;cases xd<;>try (cases G;done)
 rename_i ds;obtain⟨jE,em,G⟩:=oX G;obtain⟨ks,ek,G⟩:=oX G;split at G
 ·rename_i hh;obtain⟨Oc,hc,hf,nd⟩:=hh;cases G
  refine wpAny_Call_Name_kw (i6 I hg hm (u:=.builtin "sorted") rfl ?_);refine callWith_kw (c7 ((gF he je SQ) pos ah s σ H (λvs H1=>∃v N,vs=[v]/\Ext B N H H1/\Is X.K N v (.lst ds)) I ⟨B,ρ,_,_,sB,rep,ex,λv H1 N T i1 _=>⟨v,N,rfl,T,i1⟩⟩) λus s1 hA=>?_) SR O HX SS;obtain⟨Xi,H1,I1,r1,v,N,rfl,T,i1⟩:=hA;obtain⟨u,rfl,ru⟩:=jX r1;refine kws_cons (hk ah s1 σ H1 N ρ _ _ I1 T.nh (rep.mono T.bn) λqa H2 s2 I2 m2 Ij=>kws_nil ?_);rw[SU];show wpAny _ _ (call (.builtin "sorted") [u] [(("key" : Str),.ref qa)]) _ _ _;cases i1
  rename_i l vs hq il;cases ru
  have sN:aZ N H2:=T.nh.trans m2;obtain⟨its,rv,pl,hz⟩:=I2.list (sN.seq hq);have Nw:vs.length=its.length:=rv.length;have Ob:ds.length=vs.length:=il.length.symm;have Xa:jE.length=ds.length:=kK em;have Xb:ks.length=jE.length:=M.len ek;have SW:its.length<64:=by omega
  refine call_function_entry_kw kind_sorted plain_sorted entry_sorted (ksk_s1 _ _) ?_;unfold Builtin.«sorted»;refine wX (m:=checkCount "sorted" 1 1 _) (wY (wX (collect_list pl.isList (wX (wpAny_newList ?_ (by rw[sizeLine_eq];omega))) (by rw[sizeLine_eq];omega))));let h1:Heap:=(s2.heap.push (seqObj "list" #[] 0)).update s2.heap.objs.size (Obj.mapSeq (· ++ its.toArray));have hsz:h1.objs.size=s2.heap.objs.size+1:=by show(Heap.update _ _ _).objs.size=_;rw[Heap.size_update,size_push']
  have U:∀b o,s2.heap.get? b=some o->h1.get? b=some o:=λb o q=>(Heap.get?_update_ne _ _ _ _ (vS (vX q))).trans (vZ _ q);have I3:Inv X ((h1.objs.size,seqObj "list" its.toArray 0)::ah) σ H2 { s2 with heap:=h1.push (seqObj "list" its.toArray 0) } :=
   qo (t':=s2.toks) I2 (λb u q=>vZ _ (U b u q)) (by rw[hsz];exact le_succ _) (vY _ rfl) dw
  have p3:=I3.pin (h1.objs.size,seqObj "list" its.toArray 0) (mY _ mX);show wpAny (model X.prog X.w) X.A.in1 (holding [.ref h1.objs.size] (call (.builtin "list.sort") [.ref h1.objs.size] [(("key" : Str),.ref qa)])>>=_) _ _ { s2 with heap:=h1.push (seqObj "list" its.toArray 0) };refine wX (wpAny_holding (wpAny_call_entry_kw slot_list_sort ⟨_,p3.1,rfl⟩ entry_list_sort ?_ (ksk_l1 _ _)));show wpAny (model X.prog X.w) X.A.in1.in1 (Builtin.«list.sort» ⟨[.ref h1.objs.size],[(Str.ofString "key",.ref qa)]⟩) _ _ _;rw[ksk_t1];refine Bd I3 (vR I2.sz (by rw[hsz];exact le_succ _)) (λq hq=>by rw[hsz];exact vS (lt_succ_of_lt (vX (I2.pin q hq).1))) Ij rv il sN M em ek hc hf SW λpm s' H' N' ap up J x3 hn=>⟨_,rfl,wY ⟨_,rfl,?_⟩⟩;have O:its.length=ds.length:=by omega
  rw[O]at ap up;have er:=Be (by omega) hc (zf nd) ap up;have HW:∀i∈pm.toList,i<ds.length:=λi hi=>mem_range.mp (ap.perm.mem_iff.mp hi);have ip:=zc (il.mono x3.bn) pm.toList HW;rw[er]at ip;have x4:Ext B N' H H':=(T.trans (.grow T.nh m2)).trans x3;have hN:N' h1.objs.size=none:=x3.nh.free hn;have x5:=x4.trans (Ext.laid (o:=.lst (pm.toList.map λi=>vs.getD i .non)) x3.nh hn);exact⟨.ref h1.objs.size,_,J,rfl,q _ _ _ x5 (.lst (gT.of aB) (ip.mono (Ext.laid (o:=.lst (pm.toList.map λi=>vs.getD i .non)) x3.nh hn).bn)) λ_=>⟨_,_,_,rfl,rfl,x4.hh.free hn,aB,ip.mono (Ext.laid (o:=.lst (pm.toList.map λi=>vs.getD i .non)) x3.nh hn).bn⟩⟩
 ·cases G
end
noncomputable def Vg {f:String->CmpOp->Builtin}(_:f "__lt__" .Lt=Builtin.«tuple.__lt__»):=f
noncomputable def T5:String->CmpOp->Builtin:=Vg rfl
section
variable {prog:Program}{w:World}{A:Around}{E:QV}{s:Shared}{op:CmpOp}
def iC.type (h:iC s.heap xs v):s.TypeIs v "tuple":=by
 obtain⟨a,o,its,n,rfl,G,hc,_⟩:=h;exact⟨o,G,hc⟩
inductive GeW (prog:Program)(w:World)(A:Around)(s:Shared)(op:CmpOp)(ju r:Bool):List (Value×Value)->Prop
 |nil (h:ju=r):GeW prog w A s op ju r []
 |eq {u v:Value}{l:List (Value×Value)}(h:SeqAt.EqAt A s u v true) (t:GeW prog w A s op ju r l):GeW prog w A s op ju r ((u,v)::l)
 |ne {u v:Value}{l:List (Value×Value)}(h:SeqAt.EqAt A s u v false) (t:∀(Q E:Value->Shared->Prop),Q (.bool r) s->wpAny (model prog w) A (richCompare op u v) Q E s):GeW prog w A s op ju r ((u,v)::l)
def Jt {nm:String}(O:s.TypeIs (.ref b) "tuple")(T:s.heap.get? a=some oa)(U:oa.data=.seq its na)(Xj:s.heap.get? b=some ob)(SD:ob.data=.seq BA nb)
  (W:GeW prog w A s op ju r (its.toList.zip BA.toList)) (hz:Builtin.Tuple.tupleCompareSizes op its.size BA.size=.bool ju) (Xk:op=.Lt∨op=.Gt∨op=.GtE) (q:P (.done (.ret (.bool r))) s):wpAny (model prog w) A (T5 nm op ⟨[.ref a,.ref b],[]⟩) P E s:=by
 show wpAny _ _ (isInstance (.ref _) (.type "tuple")>>=_) _ _ s;refine wX (wpAny_isInstance O isSubtype_tuple_tuple ?_);simp only[Bool.not_true,uV,if_false];refine wX (wpAny_tupleItemsOf T U ?_);refine wX (wpAny_tupleItemsOf Xj SD ?_);refine wX ?_;refine wpAny_forIn_list _ (λax z s'=>z.1=none/\s'=s/\GeW prog w A s op ju r ax) _ ?_ ?_ _ _ ⟨rfl,rfl,W⟩
 ·rintro⟨u,v⟩ ax z s' ⟨hz,rfl,W⟩;cases W with
  |eq h t=>
   refine wX (h _ _ _ _ ?_);simp only[Bool.not_true,uV,if_false];exact wY ⟨rfl,rfl,t⟩
  |ne h t=>
   refine wX (h _ _ _ _ ?_);simp only[Bool.not_false,if_true];have t:=t (λv G=>v=.bool r/\G=s') E ⟨rfl,rfl⟩;rcases Xk with rfl|rfl|rfl<;>exact wX (wpAny_rule (wX (wpAny_mono t (λv G hv=>by obtain⟨rfl,rfl⟩:=hv;exact wX (wY (wY (wY q)))) λ_ _ z=>z)))
 ·rintro⟨z1,z2⟩ s' ⟨M,rfl,W⟩;simp only at M;subst M;refine wY ?_;cases W with
  |nil h=>
   show P (.done (.ret (Builtin.Tuple.tupleCompareSizes op its.size BA.size))) s';rw[hz,h];exact q
structure CmR (prog:Program)(w:World)(A:Around)(s:Shared)(op:CmpOp)(R:List At->List At->Bool->Prop)(fl:Nat->Nat->Bool):Prop where
 ei:∀ {a xs ys r},R (.i a::xs) (.i a::ys) r->R xs ys r
 es:∀ {a xs ys r},R (.s a::xs) (.s a::ys) r->R xs ys r
 ni:∀ {a c xs ys r},a≠c->R (.i a::xs) (.i c::ys) r->∀t u (Q E:Value->Shared->Prop),Q (.bool r) s->wpAny (model prog w) A (richCompare op (.int a t) (.int c u)) Q E s
 ns:∀ {a c xs ys r},a≠c->R (.s a::xs) (.s c::ys) r->∀t u (Q E:Value->Shared->Prop),Q (.bool r) s->wpAny (model prog w) A (richCompare op (.str a t) (.str c u)) Q E s
 mx:∀ {a c xs ys r},¬R (.i a::xs) (.s c::ys) r/\¬R (.s c::xs) (.i a::ys) r
 en:∀ {xs r},(R [] xs r->fl 0 xs.length=r)/\(R xs [] r->fl xs.length 0=r)
 fs:∀ {m n},fl (m+1) (n+1)=fl m n
theorem rz (C:CmR prog w A s op R fl):∀(xs ys:List At)(its O:LU),Paired Au xs its->Paired Au ys O->R xs ys r->GeW prog w A s op (fl xs.length ys.length) r (its.zip O)
 |[],_,_,_,.nil,_,h=>.nil (C.en.1 h)
 |_::_,[],_,_,.cons _ _,.nil,h=>.nil (C.en.2 h)
 |.i _::_,.s _::_,_,_,_,_,h=>absurd h C.mx.1
 |.s _::_,.i _::_,_,_,_,_,h=>absurd h C.mx.2
 |.i a::xs,.i c::ys,_,_,.cons T G,.cons U M,h=>by
  obtain⟨t,rfl⟩:=T;obtain⟨u,rfl⟩:=U;have he:=SeqAt.EqAt.int_int (A:=A) (s:=s) a t c u;rw[zip_cons_cons,vE,vE,C.fs];by_cases e:a=c
  ·subst e;rw[show(a == a)=true by simp]at he;exact .eq he (rz C xs ys _ _ G M (C.ei h))
  ·rw[show(a == c)=false by simp[e]]at he;exact .ne he (C.ni e h t u)
 |.s a::xs,.s c::ys,_,_,.cons T G,.cons U M,h=>by
  obtain⟨t,rfl⟩:=T;obtain⟨u,rfl⟩:=U;have he:=SeqAt.EqAt.str_str (A:=A) (s:=s) a t c u;rw[zip_cons_cons,vE,vE,C.fs];by_cases e:a=c
  ·subst e;rw[show(a == a)=true by simp]at he;exact .eq he (rz C xs ys _ _ G M (C.es h))
  ·rw[show(a == c)=false by simp[e]]at he;exact .ne he (C.ns e h t u)
def Pe:CmR prog w A s .Lt (λxs ys r=>bv xs ys=some r) (λm n=>decide (m<n)) where
 ei h:=by rwa [bv,if_pos rfl]at h
 es h:=by rwa [bv,if_pos rfl]at h
 ni e h _ _ _ _ q:=by rw[bv,if_neg e]at h;cases h;exact PyProof.Rows.lt_int q
 ns e h _ _ _ _ q:=by rw[bv,if_neg e]at h;cases h;exact PySem.P.lt_str q
 mx:=by simp[bv]
 en:=λ{xs}=>by cases xs<;>simp[bv]
 fs:=by simp
def Pf:CmR prog w A s .Gt (λxs ys r=>bv ys xs=some r) (λm n=>decide (n<m)) where
 ei h:=by rwa [bv,if_pos rfl]at h
 es h:=by rwa [bv,if_pos rfl]at h
 ni e h _ _ _ _ q:=by rw[bv,if_neg (Ne.symm e)]at h;cases h;exact PyProof.Rows.gt_int q
 ns e h _ _ _ _ q:=by rw[bv,if_neg (Ne.symm e)]at h;cases h;exact PySem.P.gt_str q
 mx:=by simp[bv]
 en:=λ{xs}=>by cases xs<;>simp[bv]
 fs:=by simp
def Ge (hx:iC s.heap xs (.ref a)):∃o its n,s.heap.get? a=some o/\o.data=.seq its n/\Paired Au xs its.toList/\xs.length=its.size:=by
 obtain⟨M,o,its,n,e,G,hc,hd,p⟩:=hx;cases e
 exact⟨o,its,n,G,hd,p,by rw[←vG];exact gf p⟩
def Lj {nm:String}(C:CmR prog w A s op R fl)(hz:∀m n,Builtin.Tuple.tupleCompareSizes op m n=.bool (fl m n))(G:op=.Lt∨op=.Gt∨op=.GtE)(hx:iC s.heap xs (.ref a))(hy:iC s.heap ys (.ref b))(h:R xs ys r)(q:P (.done (.ret (.bool r))) s):wpAny (model prog w) A (T5 nm op ⟨[.ref a,.ref b],[]⟩) P E s:=by
 have hb:=hy.type;obtain⟨_,_,_,T,hd,p,l1⟩:=Ge hx;obtain⟨_,_,_,M,O,U,l2⟩:=Ge hy;exact Jt hb T hd M O (rz C _ _ _ _ p U h) (by rw[l1,l2];exact hz _ _) G q
def Gf (hx:iC s.heap xs x)(hy:iC s.heap ys y)(h:bv xs ys=some r)(hu:A.units<cLine)(q:Q (.bool r) s):wpAny (model prog w) A (richCompare .Lt x y) Q E s:=by
 have G:=hx.type;have ty:=hy.type;obtain⟨a,_,_,_,rfl,_⟩:=id hx;obtain⟨b,_,_,_,rfl,_⟩:=id hy;exact wpAny_richCompare_same_room (op:=.Lt) G ty slot_tuple_lt (wpAny_call_entry slot_tuple_lt G PySem.F.entry_tuple_lt (Lj Pe (λ_ _=>rfl) (.inl rfl) hx hy h ⟨_,rfl,(λe=>nomatch e),q⟩) (PySem.F.args_tuple_lt_2 _ _)) hu
def Pg (hx:iC s.heap xs x)(hy:iC s.heap ys y)(h:bv ys xs=some r)(hu:A.units<cLine)(q:Q (.bool r) s):wpAny (model prog w) A (richCompare .Gt x y) Q E s:=by
 have G:=hx.type;have ty:=hy.type;obtain⟨a,_,_,_,rfl,_⟩:=id hx;obtain⟨b,_,_,_,rfl,_⟩:=id hy;exact wpAny_richCompare_same_room (op:=.Gt) G ty slot_tuple_gt (wpAny_call_entry slot_tuple_gt G PySem.F.entry_tuple_gt (Lj Pf (λ_ _=>rfl) (.inr (.inl rfl)) hx hy h ⟨_,rfl,(λe=>nomatch e),q⟩) (PySem.F.args_tuple_gt_2 _ _)) hu
end
def nc:List At×D->List (List At×D)->D
 |b,[]=>b.2
 |b,x::r=>if bv b.1 x.1=some true then nc x r else nc b r
def lN:List At×D->List (List At×D)->D
 |b,[]=>b.2
 |b,x::r=>if bv x.1 b.1=some true then lN x r else lN b r
noncomputable def Vh {f:String->CmpOp->Builtin}(_:f "max" .Gt=Builtin.«max.loop»):=f
noncomputable def Vi:String->CmpOp->Builtin:=Vh rfl
noncomputable def Vj {f:String->Builtin}(_:f "max" = Builtin.«max»):=f
noncomputable def Vk:String->Builtin:=Vj rfl
structure MM (nm lp:String)(ns:Str)(op:CmpOp)(lt:List At->List At->Option Bool)(go:List At×D->List (List At×D)->D):Prop where
 hn:(toString nm++toString ".loop" : String)=lp
 en:entryFor table lp=some (Vi nm op)
 pl:plainId lp=true
 k2:builtinKind nm=none
 p2:plainId nm=true
 e2:entryFor table nm=some (Vk nm)
 ka:∀a v:Value,argsOk nm ⟨[a],[(Str.ofString "key",v)]⟩
 bt:bootBuiltins ns=some (.builtin nm)
 n1:ns ≠ "__name__"
 n2:(ns == ("__debug__" : Str))=false
 g0:∀b,go b []=b.2
 g1:∀b x r,go b (x::r)=if lt b.1 x.1=some true then go x r else go b r
 cg:∀ {ks:List (List At)},eO ks=true->∀ {a b},a∈ks->b∈ks->∃r,lt a b=some r
 rc:∀ {prog:Program}{w:World}{A:Around}{E:Value->Shared->Prop}{s:Shared}{xs ys:List At}{x y:Value}{r:Bool}{Q:Value->Shared->Prop},iC s.heap xs x->iC s.heap ys y->lt ys xs=some r->A.units<cLine->Q (.bool r) s->wpAny (model prog w) A (richCompare op x y) Q E s
def T6:MM "max" "max.loop" "max" .Gt bv nc :=
 ⟨by decide,PySem.F.entry_max_loop,PySem.F.plain_max_loop,PySem.F.kind_max,PySem.F.plain_max,PySem.F.entry_max,λ_ _=>by unfold argsOk;kernel_rfl,rfl,by decide,by decide,λ_=>rfl,λ_ _ _=>rfl,λh _ _ a b=>⟨_,iq h a b⟩,Pg⟩
def R8:MM "min" "min.loop" "min" .Lt (λa b=>bv b a) lN :=
 ⟨by decide,PySem.F.entry_min_loop,PySem.F.plain_min_loop,PySem.F.kind_min,PySem.F.plain_min,PySem.F.entry_min,λ_ _=>by unfold argsOk;kernel_rfl,rfl,by decide,by decide,λ_=>rfl,λ_ _ _=>rfl,λh _ _ a b=>⟨_,iq h b a⟩,Gf⟩
section
variable {X:Cx}{ah:AO}{σ:St}
def Bf (J:Inv X ((a1,o1)::(a2,o2)::ah) σ H' s'):Inv X ((a2,o2)::(a1,o1)::ah) σ H' s' :=
 J.pins_of λq hq=>J.pin q (by
  rcases vP hq with rfl|hq
  ·exact mY _ (mZ _ mX)
  ·rcases vP hq with rfl|hq
   ·exact mY _ mX
   ·exact mY _ (mZ _ (mZ _ hq)))
def r0 (hp:∀q∈X.pn++ah,q.1≠a)(h:S≠a):∀q∈X.pn++((S,o)::ah),q.1≠a:=λq hq=>by
 rcases mem_append.mp hq with hq|hq
 ·exact hp q (mem_append_left _ hq)
 ·rcases vP hq with rfl|hq
  ·exact h
  ·exact hp q (mY _ hq)
def qp (I:Inv X ah σ H s)(r:be v u)(i:Is X.K H v d)(e:yZ d=some k):iC s.heap k u:=by
 have:=qm I (ys:=[v]) (ds:=[d]) (ks:=[k]) (its:=[u]) (.cons r .nil) (.cons i .nil) (by simp only[dO,e];rfl);cases this;assumption
inductive MK (X:Cx)(ah:List (Addr×Obj))(σ:St)(S It l:Addr)(o:Obj)(j:Nat)(N H:Hp)(y:List At×D)(u ku:Value)(s:Shared):Prop
 |mk (H2 N2:Hp) (v kv:V) (kd:D) (oI:Obj) (J:Inv X ((S,o)::(It,oI)::ah) σ H2 s) (tS:s.heap.IsListIter It l (j+1)) (x:Ext N N2 H H2) (ru:be v u) (iv:Is X.K N2 v y.2) (rk:be kv ku) (ik:Is X.K N2 kv kd) (ek:yZ kd=some y.1)
def Gg {E:QV}{It:Addr}(hh:X.A.handled=none)(Ij:Cq X X.A.in1 σ (.ref qa) B H1 kf)(hq:gT X.K B l vs)(iv:IsL X.K B vs ds)(em:j4 kf ds=some jE)(ek:dO jE=some ks)(I0:X.s₀.heap.objs.size<=It)(NC:∀q∈X.pn++((S,o)::ah),q.1≠It)
  (ND:l≠It) (hz:(ks.zip ds)[j]? = some y) (I:Inv X ((S,o)::(It,oI)::ah) σ H s) (tS:s.heap.IsListIter It l j) (G:Ext B N H1 H):
  wpAny (model X.prog X.w) X.A.in1 (pyNext (.ref It)) (λr s1=>∃u,r=some u/\wpAny (model X.prog X.w) X.A.in1 (call (.ref qa) [u]) (MK X ah σ S It l o j N H y u) (λ_ _=>False) s1) E s:=by
 obtain⟨its,rv,pl,_⟩:=I.list ((G.bn.trans G.nh).seq hq);obtain⟨hk,hd⟩:=getElem?_zip_eq_some.mp hz;obtain⟨v,hv,O⟩:=iv.get hd;obtain⟨kd,T,SM⟩:=ro em hd;obtain⟨u,hu,ru⟩:=rv.get hv;have Oe:yZ kd=some y.1:=by
  have:=vg ek (i:=j) (vV T).1;rw[vF,T,vF,hk]at this;exact this
 refine(Walks.list (prog:=X.prog) (w:=X.w) (A:=X.A.in1) hh It l ND its.toArray).item j _ _ _ (by simpa using(vV hu).1) ⟨tS,pl.isList⟩ λu' h' NA hP U Lv=>?_;have Qp:its[j]? = some u':=by simpa using hP
 rw[hu]at Qp;cases Qp;obtain⟨M,SX,K1,UD⟩:=id U.1;exact⟨u,rfl,c7 (Ij _ _ H N v u y.2 kd (Bf (iD (t':=NA) (Bf I) I0 NC (λb o n e=>Lv b o (by simpa using n) e) SX (λv z=>by rw[UD]at z;cases z))) G.hh G.bn G.nh (O.mono G.bn) ru SM) λku s2 ⟨kv,H2,J4,rk,N2,x2,ik⟩=>
  ⟨H2,N2,v,kv,kd,M,J4,⟨M,(J4.pin (It,M) (mY _ (mZ _ mX))).1,K1,UD⟩,x2,ru,O.mono (G.bn.trans x2.bn),rk,ik,Oe⟩⟩
def Ju {nm lp:String}{ns:Str}{op:CmpOp}{lt:List At->List At->Option Bool}{go:List At×D->List (List At×D)->D}(M:MM nm lp ns op lt go){qv:Value}{l S It:Addr}{vs:LV}{ds jE:LD}{ks:List (List At)}{B H1:Hp}{kf:D->Option D}{d0:D}{R:Result->Shared->Prop}(hh:X.A.handled=none)(hu:X.A.in1.units<cLine)(Ij:Cq X X.A.in1 σ qv B H1 kf)(Xl:∃a,qv=.ref a)(hq:gT X.K B l vs)(iv:IsL X.K B vs ds)
  (em:j4 kf ds=some jE) (ek:dO jE=some ks) (hc:eO ks=true) (S0:X.s₀.heap.objs.size<=S) (I0:X.s₀.heap.objs.size<=It) (Qr:∀q∈X.pn++ah,q.1≠S) (NC:∀q∈X.pn++ah,q.1≠It) (NB:S≠It) (NE:S≠l) (ND:l≠It)
  (hR:∀(s':Shared)(H' N:Hp)(v:V)(u:Value),Inv X ah σ H' s'->Ext B N H1 H'->be v u->Is X.K N v d0->R (.ok (.ret u)) s'):
  ∀(r j:Nat)(s:Shared)(H N:Hp)(O G:Value)(vb T:V)(db U:D)(kb:List At)(c:Nat)(oI:Obj),vs.length - j=r->j<=vs.length->Inv X ((S,seqObj "list" #[O,G] c)::(It,oI)::ah) σ H s->s.heap.IsListIter It l j->Ext B N H1 H ->
   be vb O->Is X.K N vb db->be T G->Is X.K N T U->yZ U=some kb->kb∈ks->go (kb,db) ((ks.zip ds).drop j)=d0 ->
   codeAny (model X.prog X.w) X.A (.builtin lp ⟨[.ref It,qv,.ref S],[]⟩) R s:=by
 obtain⟨qa,rfl⟩:=Xl;intro r;induction r with
 |zero=>
  intro j s H N O G vb T db U kb c oI hr hj I tS x1 r1 i1 r2 i2 ekb mk hd;have pS:=I.pin (S,seqObj "list" #[O,G] c) (mY _ mX);have sB:aZ B H:=x1.bn.trans x1.nh;obtain⟨its,rv,pl,_⟩:=I.list (sB.seq hq);have hl:=pl.isList;have W:=Walks.list (prog:=X.prog) (w:=X.w) (A:=X.A.in1) hh It l ND its.toArray;have hsz:its.toArray.size=its.length:=vH ..;have Nw:vs.length=its.length:=rv.length;have Ob:ds.length=its.length:=by rw[←iv.length];exact rv.length
  have UE:ks.length=ds.length:=by rw[l8 ek,kK em]
  have SK:db=d0:=by
   rw[List.drop_of_length_le (by rw[length_zip];omega)]at hd;rw[M.g0]at hd;exact hd
  subst SK;refine codeAny_builtin M.en ?_;rw[Around.under_plainId M.pl _];show wpAny _ X.A.in1 (seqItems? (.ref S)>>=_) _ _ _;refine wX (wpAny_seqItems pS.1 rfl ?_);show wpAny _ X.A.in1 (tryCatch (pyNext (.ref It)) _>>=_) _ _ _;refine wX (wpAny_tryCatch (W.done _ _ _ ⟨by rw[hsz,show its.length=j by omega];exact tS,hl⟩ λh' NA Lv=>?_));have J1:Inv X ((It,oI)::(S,seqObj "list" #[O,G] c)::ah) σ H s:=Bf I;have SY:∀q∈X.pn++((S,seqObj "list" #[O,G] c)::ah),q.1≠It:=r0 NC NB;have J2:Inv X ((S,seqObj "list" #[O,G] c)::ah) σ H { s with heap:=h',toks:=NA } :=
   (kJ J1).turned (t':=NA) (λb o n e=>Lv b o (by simpa using n) e) (J1.pin (It,oI) (mY _ mX)).2.1 (J1.pin (It,oI) (mY _ mX)).2.2.1 (.inr I0) (oA J1) SY
  have UF:=J2.pin (S,seqObj "list" #[O,G] c) (mY _ mX);obtain⟨c2,Od⟩:∃c2,(h'.update S (Obj.mapSeq λ_=>(#[]:AV))).get? S=some (seqObj "list" #[] c2):=⟨_,get?_update_seq UF.1 λ_=>#[]⟩;have u2:=vW h' S (Obj.mapSeq λ_=>(#[]:AV));show wpAny _ X.A.in1 (updateSeq S (λ_=>#[])>>=_) _ _ _;refine wX ?_;refine wpAny_updateSeq UF.1 rfl (wX (wpAny_letGo (wY ?_)));exact hR _ H N vb O (kJ (iD (t':=NA) J2 S0 Qr (λb o n e=>(u2.2 b n).trans e) Od dw)) x1 r1 i1
 |succ r ih=>
  intro j s H N O G vb T db U kb c oI hr hj I tS x1 r1 i1 r2 i2 ekb mk hd;have Ay:j<(ks.zip ds).length:=by rw[length_zip,l8 ek,kK em,←iv.length];omega
  have pS:=I.pin (S,seqObj "list" #[O,G] c) (mY _ mX);have hz:=vU Ay;rw[List.drop_eq_getElem_cons Ay,M.g1]at hd;generalize (ks.zip ds)[j]=y at hz hd;have hm:y.1∈ks:=vL (getElem?_zip_eq_some.mp hz).1;obtain⟨r,Ta⟩:=M.cg hc mk hm;refine codeAny_builtin M.en ?_;rw[Around.under_plainId M.pl _];show wpAny _ X.A.in1 (seqItems? (.ref S)>>=_) _ _ _;refine wX (wpAny_seqItems pS.1 rfl ?_);show wpAny _ X.A.in1 (tryCatch (pyNext (.ref It)) _>>=_) _ _ _;refine wX (wpAny_tryCatch (c7 (Gg hh Ij hq iv em ek I0 (r0 NC NB) ND hz I tS x1) λ_ s1 ⟨u,e,h1⟩=>?_));subst e;show wpAny _ X.A.in1 (tryCatch (holding [u] (call (.ref qa) [u])) _>>=_) _ _ _;refine wX (wpAny_tryCatch (wpAny_holding (wpAny_mono h1 (λku s2 ⟨H2,N2,v,kv,kd,QS,J4,Qs,x2,ru,Qo,rk,ik,Oe⟩=>?_) λ_ _ z=>z.elim)));have t1:=qp J4 rk (ik.mono x2.nh) Oe;have t2:=qp J4 r2 (i2.mono (x2.bn.trans x2.nh)) ekb;show wpAny _ X.A.in1 (tryCatch (holding [u,ku] (richCompare op ku G>>=_)) _>>=_) _ _ _;refine wX (wpAny_tryCatch (wpAny_holding (wX (M.rc t1 t2 Ta hu ?_))));refine wX (wpAny_holding (wpAny_truthy_bool ?_));refine wX (wpAny_letGo (wY ?_));cases r with
  |true=>
   rw[if_pos Ta]at hd;have u2:=vW s2.heap S (Obj.mapSeq λ_=>#[u,ku]);simp only[if_true];have Qt:=J4.pin (S,seqObj "list" #[O,G] c) (mY _ mX);refine wX (wpAny_updateSeq Qt.1 rfl (wX (wpAny_letGo ?_)));rw[M.hn];obtain⟨o,g1,g2⟩:=Qs;exact wY ⟨plainId_quiet M.pl _,ih (j+1) _ H2 N2 u ku v kv y.2 kd y.1 _ QS (by omega) (by omega) (iD (t':=s2.toks) J4 S0 (r0 Qr NB.symm) (λb o n e=>(u2.2 b n).trans e) (get?_update_seq Qt.1 λ_=>#[u,ku]) dw) ⟨o,(u2.2 It NB.symm).trans g1,g2⟩ (x1.trans x2) ru Qo rk ik Oe hm hd⟩
  |false=>
   rw[if_neg (by rw[Ta];simp)]at hd;simp only[uV,if_false];refine wX (wpAny_letGo ?_);rw[M.hn];exact wY ⟨plainId_quiet M.pl _,ih (j+1) _ H2 N2 O G vb T db U kb c QS (by omega) (by omega) J4 Qs (x1.trans x2) r1 (i1.mono x2.bn) r2 (i2.mono x2.bn) ekb mk hd⟩
end
@[simp] def MD (go:List At×D->List (List At×D)->D)(f:FE)(M:Env->D->Option D):FE:=λρ=>(f ρ).bind λx=>match x.1 with
 |.lst ds=>(j4 (M ρ) ds).bind λG=>(dO G).bind λks=>if eO ks=true then match ks.zip ds with
  |[]=>none
  |y::r=>some (go y r,false)
  else none
 |_=>none
@[simp] def vj:=MD nc
@[simp] def vk:=MD lN
section
variable {X:Cx}{e ke:Expr}{p pos kp:Pos}
def zg {nm lp:String}{ns:Str}{op:CmpOp}{lt:List At->List At->Option Bool}{go:List At×D->List (List At×D)->D}(M:MM nm lp ns op lt go){f:FE}{kf:Env->D->Option D}{k:Nat}(hm:X.mg ns=none)(he:JE X e f)(hk:JK X X.A.in1 ke kf)(hr:eJ k X.A)(hg:Gl X ns:=by rfl)
  (SQ:starEach [e] X.env=[(false,eval e X.env)]:=by rfl) (SR:backTo pos (starEach [e] X.env)=(false,eval e X.env)::backTo pos (starEach [] X.env):=by rfl) (Ii:(backTo pos (starEach [e] X.env)).any (·.1)=false:=by rfl)
  (HX:(backToKw pos (keywordEach [⟨some "key",ke,kp⟩] X.env)).all (·.1.isSome)=true:=by rfl) (SS:(backToKw pos (keywordEach [⟨some "key",ke,kp⟩] X.env)).any (·.1.isNone)=false:=by rfl)
  (SU:(backToKw pos (keywordEach [⟨some "key",ke,kp⟩] X.env)).filterMap (·.1)=[("key" : Str)]:=by rfl):
  JE X (.Call (.Name ns p) [e] [⟨some "key",ke,kp⟩] pos) (MD go f kf):=by
 intro ah s σ H Q I h;obtain⟨B,ρ,d,b,sB,rep,G,q⟩:=h;obtain⟨⟨xd,xb⟩,ex,G⟩:=oX G;cases xd<;>try (cases G;done)
 rename_i ds;obtain⟨jE,em,G⟩:=oX G;obtain⟨ks,ek,G⟩:=oX G;split at G
 ·rename_i hc;split at G
  ·cases G
  ·rename_i y ax ez;cases G
   refine wpAny_Call_Name_kw (i6 I hg hm M.bt ?_ M.n1 M.n2);refine callWith_kw (c7 ((gF he je SQ) pos ah s σ H (λvs H1=>∃v N,vs=[v]/\Ext B N H H1/\Is X.K N v (.lst ds)) I ⟨B,ρ,_,_,sB,rep,ex,λv H1 N T i1 _=>⟨v,N,rfl,T,i1⟩⟩) λus s1 hA=>?_) SR Ii HX SS;obtain⟨Xi,H1,I1,r1,v,N,rfl,T,i1⟩:=hA;obtain⟨u,rfl,ru⟩:=jX r1;refine kws_cons (hk ah s1 σ H1 N ρ _ _ I1 T.nh (rep.mono T.bn) λU H2 s2 I2 m2 Ij=>kws_nil ?_);rw[SU];show wpAny _ _ (call (.builtin nm) [u] [(("key" : Str),.ref U)]) _ _ _;cases i1
   rename_i l vs hq il;cases ru
   have sN:aZ N H2:=T.nh.trans m2;obtain⟨its,rv,pl,hz⟩:=I2.list (sN.seq hq);have QT:l<s2.heap.objs.size:=by
    obtain⟨ol,QQ,_⟩:=pl.isList;exact vX QQ
   have z0:(ks.zip ds)[0]? = some y:=by rw[ez];rfl
   have Xm:=vL (getElem?_zip_eq_some.mp z0).1;refine kmk_tree M.k2 M.p2 M.e2 (M.ka _ _) ?_;show wpAny _ X.A.in1 (Builtin.Builtins.bindParams nm ["key","default"] 0 ⟨[],[(Str.ofString "key",.ref U)]⟩>>=_) _ _ s2;refine wX (wpAny_of_eq (show Builtin.Builtins.bindParams nm ["key","default"] 0 ⟨[],[(Str.ofString "key",.ref U)]⟩=pure [some (.ref U),none]from rfl) ?_);refine wX (wY ?_);refine wX (wpAny_pyIter_list pl.isList ?_);refine wX (wpAny_newList ?_ (uN _));rw[M.hn];let It:Addr:=s2.heap.objs.size;let oI:Obj:={ cls:=.type "list_iterator",data:=.fields #[.ref l,.int 0 0] };let S:Addr:=(s2.heap.push oI).objs.size;have hS:S=s2.heap.objs.size+1:=size_push' ..;have O:S≠It:=by rw[hS];exact ne_of_gt (lt_succ_self _)
   have J1:Inv X ((It,oI)::ah) σ H2 { s2 with heap:=s2.heap.push oI }:=qo (t':=s2.toks) I2 (λb u q=>vZ _ q) (vT _) (vY _ rfl) (λv z=>by cases z);have J2:Inv X ((S,seqObj "list" #[] 0)::(It,oI)::ah) σ H2 { s2 with heap:=(s2.heap.push oI).push (seqObj "list" #[] 0) }:=qo (s:={ s2 with heap:=s2.heap.push oI }) (t':=s2.toks) J1 (λb u q=>vZ _ q) (vT _) (vY _ rfl) dw;have I0:X.s₀.heap.objs.size<=It:=I2.sz;have S0:X.s₀.heap.objs.size<=S:=by rw[hS];exact Nat.le_succ_of_le I2.sz
   have NC:∀q∈X.pn++ah,q.1≠It:=λq hq=>vS (vX (I2.pin q hq).1);have Qr:∀q∈X.pn++ah,q.1≠S:=λq hq=>by rw[hS];exact vS (lt_succ_of_lt (vX (I2.pin q hq).1))
   have ND:l≠It:=vS QT;have NE:S≠l:=by rw[hS];exact ne_of_gt (lt_succ_of_lt QT)
   have hh:X.A.handled=none:=hr.hd;have hu:X.A.in1.units<cLine:=by have:=hr.un;show X.A.units+1<cLine;omega
   have pS:=J2.pin (S,seqObj "list" #[] 0) (mY _ mX);have pI:=J2.pin (It,oI) (mY _ (mZ _ mX));refine wY ⟨plainId_quiet M.pl _,?_⟩;refine codeAny_builtin M.en ?_;rw[Around.under_plainId M.pl _];show wpAny _ X.A.in1 (seqItems? (.ref S)>>=_) _ _ { s2 with heap:=(s2.heap.push oI).push (seqObj "list" #[] 0) };refine wX (wpAny_seqItems pS.1 rfl ?_);show wpAny _ X.A.in1 (tryCatch (pyNext (.ref It)) _>>=_) _ _ _;refine wX (wpAny_tryCatch (c7 (Gg hh Ij hq il em ek I0 (r0 NC O) ND z0 J2 ⟨oI,pI.1,rfl,rfl⟩ (.refl sN)) λ_ s1 ⟨u,e,h1⟩=>?_));subst e;show wpAny _ X.A.in1 (tryCatch (holding [u] (call (.ref U) [u])) _>>=_) _ _ _;refine wX (wpAny_tryCatch (wpAny_holding (wpAny_mono h1 (λku s3 ⟨H3,N3,v,kv,kd,QS,J4,⟨o,g1,g2⟩,x3,ru,Qo,rk,ik,Oe⟩=>?_) λ_ _ z=>z.elim)));have Qt:=J4.pin (S,seqObj "list" #[] 0) (mY _ mX);have u2:=vW s3.heap S (Obj.mapSeq λ_=>#[u,ku]);show wpAny _ X.A.in1 (updateSeq S (λ_=>#[u,ku])>>=_) _ _ _;refine wX (wpAny_updateSeq Qt.1 rfl ?_);rw[M.hn];have Tc:1<=vs.length:=by
    have:=congrArg List.length ez;rw[length_zip,vE,←il.length]at this;omega
   exact wY ⟨plainId_quiet M.pl _,Ju M (S:=S) (It:=It) hh hu Ij ⟨U,rfl⟩ hq il em ek hc S0 I0 Qr NC O NE ND (λs' H' N' v' u' J' x' r' i'=>⟨v',H',J',r',q _ _ _ ((T.trans (.grow T.nh m2)).trans x') i' (by simp)⟩) _ 1 _ H3 N3 u ku v kv y.2 kd y.1 _ QS rfl Tc
    (iD (t':=s3.toks) J4 S0 (r0 Qr O.symm) (λb o n e=>(u2.2 b n).trans e) (get?_update_seq Qt.1 λ_=>#[u,ku]) dw) ⟨o,(u2.2 It O.symm).trans g1,g2⟩ x3 ru Qo rk ik Oe Xm (by rw[ez];rfl)⟩
 ·cases G
end
section
variable {X:Cx}
@[simp] def L6:D->D->OB
 |.tup xs,.tup ys=>(jN xs).bind λG=>(jN ys).bind λbs=>(bv G bs).map λr=>(.bl r,false)
 |_,_=>none
def Ph (hu:X.A.units+40<cLine):dL X (compareOp .Lt) (rD X.K L6):=by
 intro ah s σ H x y v u Q I M O q;obtain⟨B,dx,T,d,b,G,U,iy,e,q⟩:=q;cases dx<;>try (simp[L6]at e;done)
 cases T<;>try (simp[L6]at e;done)
 simp only[L6]at e;obtain⟨as,e1,e⟩:=oX e;obtain⟨bs,e2,e⟩:=oX e;obtain⟨r,e3,e⟩:=oY e;cases e
 show wpAny _ _ (richCompare .Lt v u) _ _ _;exact Gf (qp I M (U.mono G) e1) (qp I O (iy.mono G) e2) e3 (by omega) ⟨.bl r,H,I,rfl,q.one G (.bl r)⟩
end
end DL
namespace DL
open PySem PySem.Spec PyProof.Rows L2
section
variable {X:Cx}
noncomputable def vn:D->D->OB
 |.tup xs,.tup ys=>if xs.isEmpty=true then some (.tup ys,false)else none
 |_,_=>none
def Jv:dL X (binaryOp .Add) (rD X.K vn):=by
 intro ah s σ H x y v u Q I rx ry q;obtain⟨B,dx,dy,d,bb,sB,ix,iy,G,q⟩:=q;cases ix<;>try (cases G;done)
 cases iy<;>try (cases G;done)
 rename_i l vs ds h hl l' ws es h' Td;simp only[vn]at G;split at G
 ·rename_i hz;cases G
  cases rx
  cases ry
  obtain⟨its,r1,p1,_⟩:=I.tuple (b8 sB h);obtain⟨M,r2,p2,_⟩:=I.tuple (b8 sB h');have he:its.toArray.isEmpty=true:=by
   have e1:=hl.length;have e2:=r1.length;have e3:=List.isEmpty_iff.mp hz;rw[e3]at e1;cases its with
   |nil=>rfl
   |cons a b=>rw[e1]at e2;simp at e2
  obtain⟨⟨cls,dd,data,sl⟩,ho,hc,n,hd⟩:=id p1;obtain⟨⟨Sj,QU,data2,Xn⟩,O,T,n2,U⟩:=id p2;dsimp only at hc hd T U;subst hc;subst hd;subst T;subst U;exact concat_meets ⟨_,ho,rfl⟩ ⟨_,O,rfl⟩ noFill_tuple_add seq_tuple_add slot_tuple_add entry_tuple_add (args_tuple_add_2 _ _)
   (tuple_addW0 l l' its.toArray M.toArray n n2 dd QU sl Xn he) ⟨ho,O,⟨.ref l',H,I,rfl,q.one sB (.tup h' Td)⟩⟩
 ·cases G
@[simp] noncomputable def Cs:D->D->OB
 |.tup xs,.tup ys=>if xs.length+ys.length<=sizeLine then some (.tup (xs++ys),false)else none
 |_,_=>none
def Jw (xs ys:LD)(z:xs.length+ys.length<=sizeLine):EB ua vn (.tup xs) (.tup ys)=some (.tup (xs++ys),false):=by
 cases xs with
 |nil=>
  have:ua (.tup []) (.tup ys)=none:=if_neg (λh=>by cases h.2);show(match ua (.tup []) (.tup ys) with|some z=>some z|none=>vn (.tup []) (.tup ys))=_;rw[this];rfl
 |cons a l=>
  have:ua (.tup (a::l)) (.tup ys)=some (.tup (a::l++ys),false):=if_pos ⟨z,rfl⟩;show(match ua (.tup (a::l)) (.tup ys) with|some z=>some z|none=>vn (.tup (a::l)) (.tup ys))=_;rw[this]
def Gh:dL X (binaryOp .Add) (rD X.K Cs):=by
 refine jg (r:=rD X.K (EB ua vn)) (oy F7 Jv) λx y H Q q=>?_;obtain⟨B,dx,T,d,bb,U,M,O,G,q⟩:=q;refine⟨B,dx,T,d,bb,U,M,O,?_,q⟩;cases M<;>try (cases G;done)
 cases O<;>try (cases G;done)
 rename_i l vs ds h hl l' ws es h' Td;simp only[Cs]at G;split at G
 ·rename_i hz;rw[Jw _ _ hz];exact G
 ·cases G
end
section
variable {X:Cx}
@[simp] def xE:LD->OB
 |[d,.tup [.ty n,.ty m]]=>if xi d=true then none else if n = "list"/\m = "tuple" then some (.bl (gX d == "list" || gX d == "tuple"),false)else none
 |_=>none
def DU (K:Frag)(d:D)(hd:∀n,d≠.ty n):PySem.W.kitAny K (.type (gX d)) [.type "list",.type "tuple"]=some (gX d == "list" || gX d == "tuple"):=by
 obtain⟨_,_,_,k4,k5⟩:=F4 K d hd;unfold PySem.W.kitAny;rw[k4];cases gX d == "list" with
 |true=>rfl
 |false=>
  unfold PySem.W.kitAny;rw[k5];cases gX d == "tuple" with
  |true=>rfl
  |false=>rfl
def Gi (I:Inv X ah σ H s)(i:Is X.K H v d)(hd:∀n,d≠.ty n)(G:be v u)(T:IsTup s.heap tp its.toArray)(e:PySem.W.kitAny X.K (.type (gX d)) its=some b)(h:∀tk,Q (.bool b) { s with toks:=tk }):
  wpAny (model X.prog X.w) A (call (.builtin "isinstance") [u,.ref tp]) Q E s:=by
 obtain⟨⟨cls,dd,data,sl⟩,M,hc,n,O⟩:=id T;dsimp only at hc O;subst hc;subst O;cases i with
 |non=>cases (show u=Value.none from G);exact PySem.W.kia_tup PySem.W.kitx_none I.kIn True.intro M e (λz=>nomatch z) h
 |bl y=>cases (show u=Value.bool y from G);exact PySem.W.kia_tup PySem.W.kitx_bool I.kIn True.intro M e (λz=>nomatch z) h
 |int i=>obtain⟨t,q⟩:=(show ∃t,u=Value.int i t from G);cases q;exact PySem.W.kia_tup PySem.W.kitx_int I.kIn True.intro M e (λz=>nomatch z) h
 |str y=>obtain⟨t,q⟩:=(show ∃t,u=Value.str y t from G);cases q;exact PySem.W.kia_tup PySem.W.kitx_str I.kIn True.intro M e (λz=>nomatch z) h
 |ty n=>exact absurd rfl (hd n)
 |dk h1 _ _=>
  cases G
  obtain⟨_,_,_,vs,_,o,es,ep,U,e2,_⟩:=(show bR X.prog X.w H s.heap _ (.dK _ _)from I.hok _ _ h1);exact PySem.W.kia_tup PySem.W.kitx_dict I.kIn ⟨o,U,e2.1⟩ M e (λz=>nomatch z) h
 |dt h1 _ _=>
  cases G
  obtain⟨_,_,xs,_,o,es,ep,U,e2,_⟩:=(show bR X.prog X.w H s.heap _ (.dT _)from I.hok _ _ h1);exact PySem.W.kia_tup PySem.W.kitx_dict I.kIn ⟨o,U,e2.1⟩ M e (λz=>nomatch z) h
 |tup T _=>
  cases G
  obtain⟨its,_,⟨o,h1,h2,_⟩,_⟩:=I.tuple T;exact PySem.W.kia_tup PySem.W.kitx_tuple I.kIn ⟨o,h1,h2⟩ M e (λz=>nomatch z) h
 |lst hl _=>
  cases G
  obtain⟨its,_,⟨o,n,h1,h2,_⟩,_⟩:=I.list hl;exact PySem.W.kia_tup PySem.W.kitx_list I.kIn ⟨o,h1,h2⟩ M e (λz=>nomatch z) h
def DV:c8 X (.builtin "isinstance") (EA X.K xE):=by
 intro ah s σ H xs us Q I T q;obtain⟨B,ds,d,b,G,i,e,q⟩:=q;match ds,i,e with
 |[dx,.tup [.ty n,.ty m]],.cons i1 (.cons i2 .nil),e=>
  obtain⟨u1,u2,rfl,U,r2⟩:=EQ T;simp only[xE]at e;split at e
  ·cases e
  ·rename_i ht;have hd:∀n,dx≠.ty n:=λn z=>by subst z;exact ht rfl
   split at e
   ·rename_i hh;obtain⟨rfl,rfl⟩:=hh;cases e
    cases i2 with
    |tup hs hl=>
     cases hl with
     |cons j1 hl=>
      cases hl with
      |cons j2 hl=>
       cases hl
       cases j1
       cases j2
       cases r2
       obtain⟨its,rv,p,_⟩:=I.tuple (b8 G hs);obtain⟨w1,w2,rfl,M,O⟩:=rv.two;cases M
       cases O
       exact Gi I (i1.mono G) hd U p (DU X.K dx hd) λtk=>⟨.bl _,H,I.tok tk,rfl,q.one G (.bl _)⟩
   ·cases e
end
@[simp] noncomputable def lO:D->Option eK
 |.int i=>some (.inl i)
 |.str x=>some (.inr x)
 |_=>none
def vp {K:Frag}{B:Hp}{v:V}{d:D}{k:eK}(i:Is K B v d)(e:lO d=some k):v=kV k:=by
 cases i<;>simp only[lO]at e<;>cases e<;>rfl
noncomputable def fU {κ:Type}[DecidableEq κ]:List κ->LD->κ->Option D
 |k'::ks,d::ds,k=>if k'=k then some d else fU ks ds k
 |_,_,_=>none
theorem xF {κ:Type}[DecidableEq κ]{K:Frag}{B:Hp}(k:κ):∀ {ks:List κ}{vs:LV}{ds:LD},ks.length=vs.length->IsL K B vs ds ->
  (∃v d,ko (ks.zip vs) k=some v/\fU ks ds k=some d/\Is K B v d)∨(ko (ks.zip vs) k=none/\fU ks ds k=none)
 |[],vs,ds,_,_=>.inr ⟨by cases vs<;>rfl,by cases ds<;>rfl⟩
 |k'::ks,[],_,h,_=>by simp at h
 |k'::ks,v::vs,_,h,.cons i is=>by
  rw[zip_cons_cons];unfold fU;by_cases e:k'=k
  ·rw[if_pos e];exact .inl ⟨v,_,mH (p:=(k',v)) e,rfl,i⟩
  ·rw[if_neg e,mI (p:=(k',v)) e];exact xF k (by simpa using h) is
section
variable {X:Cx}{o e i:Expr}{pos:Pos}
@[simp] def Gj:D->D->OB
 |.dk ks vs,y=>(lO y).map λk=>((fU ks vs k).getD .non,false)
 |_,_=>none
def Gk {dM cF:Pos}{fo fe:FE}(hu:X.A.units+1<cLine)(ho:JE X o fo)(he:JE X e fe)(m:M1 X o "get" dM e cF):JE X (.Call (.Attribute o "get" dM) [e] [] cF) (f2 Gj fo fe):=by
 refine PE.to (yq hu ho he m) λσ H Q q=>?_;obtain⟨B,ρ,d,bb,sB,r,G,q⟩:=q;obtain⟨x,ex,G⟩:=oX G;obtain⟨y,ey,G⟩:=oX G;refine⟨B,ρ,x.1,x.2,sB,r,ex,λv H1 N1 O i1 ff=>?_⟩;obtain⟨xd,xb⟩:=x;cases i1 with
 |@dk a ks vs ds ob h hl hs=>
  simp only[Gj]at G;obtain⟨k,hk,G⟩:=oY G;cases G
  refine⟨a,rfl,.inl ⟨_,_,.inl (O.nh _ _ h)⟩,N1,ρ,y.1,y.2,O.nh,r.mono O.bn,ey,λv2 H2 N2 M i2 _=>?_⟩;have hv:=vp i2 hk;subst hv;refine⟨ko (ks.zip vs) k,.inl ⟨_,k,_,.inl (M.nh _ _ (M.bn _ _ h)),rfl,rfl⟩,?_⟩;have T:=hs.mono M.bn;rcases xF k hl T with⟨v,d',U,e2,i3⟩|⟨U,e2⟩
  ·rw[U];rw[e2]at q;exact(q.into (O.trans M)).one M.nh i3
  ·rw[U];rw[e2]at q;exact(q.into (O.trans M)).one M.nh .non
 |_=>simp[Gj]at G
@[simp] def XU:D->D->OB
 |.dk ks vs,y=>(lO y).bind λk=>(fU ks vs k).map λd=>(d,false)
 |_,_=>none
@[simp] def Q7:D->D->OB
 |y,.dk ks vs=>(lO y).map λk=>(.bl (fU ks vs k).isSome,false)
 |_,_=>none
def DW {κ:Type}[DecidableEq κ]{K:Frag}{B:Hp}{k:κ}{ks:List κ}{vs:LV}{ds:LD}(hl:ks.length=vs.length)(hs:IsL K B vs ds):(ko (ks.zip vs) k).isSome=(fU ks ds k).isSome:=by
 rcases xF k hl hs with⟨v,d,G,e2,_⟩|⟨G,e2⟩
 ·rw[G,e2];rfl
 ·rw[G,e2];rfl
end
noncomputable def hZ {κ:Type}[DecidableEq κ](ks:List κ)(k:κ):List κ:=if k∈ks then ks else ks++[k]
noncomputable def eY {κ α:Type}[DecidableEq κ](ks:List κ)(xs:List α)(k:κ)(x:α):List α:=if k∈ks then List.zipWith (λk' G=>if k'=k then x else G) ks xs else xs++[x]
theorem Ct {κ:Type}[DecidableEq κ](k:κ):∀ {ks:List κ}{vs:LV},ks.length=vs.length->((ks.zip vs).any λkv=>decide (kv.1=k))=decide (k∈ks)
 |[],_,_=>by simp
 |k'::ks,[],h=>by simp at h
 |k'::ks,v::vs,h=>by
  have G:=Ct k (ks:=ks) (vs:=vs) (by simpa using h);rw[zip_cons_cons,any_cons,G];by_cases e:k'=k
  ·simp[e]
  ·have M:¬k=k':=λz=>e z.symm;simp[e,M]
theorem Cu {κ:Type}[DecidableEq κ](k:κ)(v:V):∀(ks:List κ)(vs:LV),(ks.zip vs).map (λkv=>if kv.1=k then (kv.1,v)else kv)=ks.zip (List.zipWith (λk' G=>if k'=k then v else G) ks vs)
 |[],_=>by simp
 |_::_,[]=>by simp
 |k'::ks,w::vs=>by
  rw[zip_cons_cons,uY,Cu k v ks vs,zipWith_cons_cons,zip_cons_cons];by_cases e:k'=k
  ·simp[e]
  ·simp[e]
def qq {κ:Type}[DecidableEq κ]{ks:List κ}{vs:LV}(hl:ks.length=vs.length)(k:κ)(v:V):mG (ks.zip vs) k v=(hZ ks k).zip (eY ks vs k v):=by
 unfold mG hZ eY;rw[Ct k hl];by_cases h:k∈ks
 ·rw[if_pos (Aq h),if_pos h,if_pos h,Cu]
 ·rw[if_neg (by simpa using h),if_neg h,if_neg h,List.zip_append hl];rfl
def ng {κ α:Type}[DecidableEq κ]{ks:List κ}{xs:List α}(hl:ks.length=xs.length)(k:κ)(x:α):(hZ ks k).length=(eY ks xs k x).length:=by
 unfold hZ eY;split<;>simp[hl]
theorem IsL.zipWith {κ:Type}[DecidableEq κ]{K:Frag}{B:Hp}{k:κ}{v:V}{d:D}(i:Is K B v d):∀ {ks:List κ}{vs:LV}{ds:LD},IsL K B vs ds->IsL K B (List.zipWith (λk' G=>if k'=k then v else G) ks vs) (List.zipWith (λk' G=>if k'=k then d else G) ks ds)
 |[],_,_,_=>by simpa using IsL.nil
 |_::_,_,_,.nil=>by simpa using IsL.nil
 |k'::ks,_,_,.cons h t=>by
  rw[zipWith_cons_cons,zipWith_cons_cons];refine .cons ?_ (IsL.zipWith i t);by_cases e:k'=k
  ·rw[if_pos e,if_pos e];exact i
  ·rw[if_neg e,if_neg e];exact h
def IsL.put {κ:Type}[DecidableEq κ]{K:Frag}{B:Hp}{k:κ}{v:V}{d:D}(i:Is K B v d){ks:List κ}{vs:LV}{ds:LD}(h:IsL K B vs ds):IsL K B (eY ks vs k v) (eY ks ds k d):=by
 unfold eY;split
 ·exact h.zipWith i
 ·exact h.append (.cons i .nil)
section
variable {K:Frag}{E:Ends}{σ:St}{H:Hp}
noncomputable def Cv (i:Nat):FS:=λρ=>some (.nx (ρ.set i (some (.dk [] [],true))))
noncomputable def Gm (i:Nat):FS:=λρ=>some (.nx (ρ.set i (some (.dt [] [],true))))
def dU.newBox (s:dU K B0 H0 N H σ ρ)(i:Nat)(hp:H p=none)(hb:∀C,Bx K C ob dd):dU K B0 H0 (upd N p ob) (upd H p ob) (σ.set i (some (.ref p))) (ρ.set i (some (dd,true))):=by
 have x:=Ext.laid (o:=ob) s.ext.nh hp;have s1:=s.grow x;have G:N p=none:=s.ext.nh.free hp;have M:¬own σ ρ p:=λz=>by obtain⟨T,⟨q,_⟩,_⟩:=s.owned z;rw[G]at q;cases q
 have c:aZ (dW N (own σ ρ)) (dW (upd N p ob) (λb=>own σ ρ b∨b=p)):=eV λb u e q=>⟨x.bn _ _ e,λz=>z.elim q λz=>by subst z;rw[G]at e;cases e⟩;refine s1.bindOwn aB (s.ext.hh.free hp) (λj e q z=>M ⟨j,e,q,z⟩) (λj e _ q=>?_) (λj e _ q=>?_) (hb _)
 ·obtain⟨w,h1,h2⟩:=s.sh j e q;exact⟨w,h1,h2.mono c⟩
 ·obtain⟨O,o',h1,h2,_,h4⟩:=s.ow j e q;exact⟨O,o',h1,x.bn _ _ h2,h4.mono c⟩
def Gn (q:mK K (Cv i) E σ H):Dt Fg (jv i) E σ H:=by
 obtain⟨B0,H0,ρ,r,⟨N,s⟩,e,p⟩:=q;cases e
 exact λa ob ha=>p _ _ ⟨_,s.newBox i ha λ_=>.dk (ks:=[]) (vs:=[]) rfl .nil⟩
def Go (q:mK K (Gm i) E σ H):Dt Fh (jv i) E σ H:=by
 obtain⟨B0,H0,ρ,r,⟨N,s⟩,e,p⟩:=q;cases e
 exact λa ha=>p _ _ ⟨_,s.newBox i ha λ_=>.dt (ks:=[]) (vs:=[]) rfl .nil⟩
def zh (i:Nat)(M O:FE):FS:=λρ=>match ρ[i]? with
 |some (some (.dk ks vs,true))=>(O ρ).bind λv=>(M ρ).bind λk=>(lO k.1).bind λG=>if bC v.1=true/\ks.length<sizeLine then some (.nx (ρ.set i (some (.dk (hZ ks G) (eY ks vs G v.1),true))))else none
 |_=>none
def Gp {i:Nat}{G M:FE}(q:mK K (zh i G M) E σ H):BM (om i) (tD K G) (tD K M) E σ H:=by
 obtain⟨B0,H0,ρ,r,⟨N,s⟩,e,p⟩:=q;unfold zh at e;split at e
 ·rename_i ks ds ei;obtain⟨v,T,e⟩:=oX e;obtain⟨k,ek,e⟩:=oX e;obtain⟨U,hk,e⟩:=oX e;split at e
  ·rename_i hx;cases e
   refine⟨N,ρ,v.1,v.2,s.ext.nh,s.rep,T,λv1 H1 N1 x1 i1 _=>?_⟩;have s1:=s.grow x1;obtain⟨a,o,h1,h2,h3,h4⟩:=s1.ow i _ ei;refine⟨.ref a,h1,N1,ρ,k.1,k.2,s1.ext.nh,s1.rep,ek,λv2 H2 N2 O i2 _=>?_⟩;have s2:=s1.grow O;have hv:=vp i2 hk;subst hv;obtain⟨a',o',k1,k2,k3,k4⟩:=s2.ow i _ ei;rw[h1]at k1;cases k1
   cases k4 with
   |@dk ks vs ds hl h5 ob=>
    refine⟨a,rfl,.inl ⟨_,U,_,s2.ext.nh _ _ k2,rfl,?_,λYg=>?_⟩⟩
    ·rw[length_zip];omega
    ·rw[qq hl];exact p σ _ ⟨_,s2.writeB ei h1 (.dk (ng hl _ _) (h5.put (s2.flat (i1.mono O.bn) hx.1)))⟩
  ·cases e
 ·cases e
end
section
variable {X:Cx}{pos:Pos}{e k:Expr}
def Cw (G:X.N.Nodup)(hi:X.N[i]? = some x:=by rfl)(hx:EG X.env.scope x:=by first|exact Or.inl rfl|exact Or.inr rfl)(hs:swapsWith (.Dict [] [] dp) (some (.Name x p)) pos.line X.env=pure false:=by rfl)
  (hf:X.fn x=true∨X.env.scope.names.lookup x=some .local:=by first|exact .inl rfl|exact .inr rfl):JS X (.Assign [.Name x p] (.Dict [] [] dp) pos) (Cv i):=PS.to (wG G hi hx Fi hs hf) λ_ _ _ q=>Gn q
def Jx (G:X.N.Nodup)(hi:X.N[i]? = some x:=by rfl)(hx:EG X.env.scope x:=by first|exact Or.inl rfl|exact Or.inr rfl)(hs:swapsWith (.Dict [] [] dp) (some (.Name x p)) pos.line X.env=pure false:=by rfl)
  (hf:X.fn x=true∨X.env.scope.names.lookup x=some .local:=by first|exact .inl rfl|exact .inr rfl):JS X (.Assign [.Name x p] (.Dict [] [] dp) pos) (Gm i):=PS.to (wG G hi hx Fj hs hf) λ_ _ _ q=>Go q
def Jy (hu:X.A.units+1<cLine)(hv:JE X e fv)(hk:JE X k fk)(O:X.N[i]? = some y:=by rfl)(G:L1 X.env.scope y:=by first|exact Or.inl rfl|exact Or.inr (Or.inl rfl)|exact Or.inr (Or.inr rfl))(hd:(y == ("__debug__" : Str))=false:=by decide)
  (M:(y == ("__classdict__" : Str))=false:=by decide) (hs:swapsWith e (some (.Subscript (.Name y py) k pt)) pos.line X.env=pure false:=by rfl):JS X (.Assign [.Subscript (.Name y py) k pt] e pos) (zh i fk fv) :=
 PS.to (wO hu (q9 O G hd M) hk hv hs) λ_ _ _ q=>Gp q
end
section
variable {prog:Program}{w:World}{A:Around}{E:QV}{s:Shared}
abbrev oB (h:Heap)(z TI TO G:Addr)(f:Bool):Prop:=h.get? z=some { cls:=.type "zip",dict:=none,data:=.fields #[rawInt G,.bool f,.bool false,.ref TI,.ref TO],slots:=#[] }
def Gq (e:s.heap.get? a=some o)(h:Q (some o) s):wpAny (model prog w) A (loadIfAlive a) Q E s:=by
 intro M p G;unfold loadIfAlive;simp only[Sem.wp];rw[e];exact h
def vq {z TI TO G:Addr}{f:Bool}{O:Obj}{Q:Bool->Shared->Prop}(hz:oB s.heap z TI TO G f)(T:s.heap.get? G=some O)
  (q:∀h',oB h' z TI TO G true->Heap.SameBut z s.heap h'->Q false { s with heap:=h' }):wpAny (model prog w) A (Builtin.SmallTypes.ownedTupleIsFree (.ref z)) Q E s:=by
 unfold Builtin.SmallTypes.ownedTupleIsFree;refine wX (wpAny_field hz rfl (x:=rawInt G) rfl ?_);show wpAny _ _ (loadIfAlive ((G:Int).toNat)>>=_) _ _ _;rw[toNat_natCast];refine wX (Gq T ?_);simp only[isNone_some,uV,if_false];refine wX (wpAny_field hz rfl (x:=.bool f) rfl ?_);cases f with
 |true=>
  rw[if_neg (show ¬((Value.bool true != Value.bool true)=true)from uX)];exact wY (q s.heap hz (.refl _ _))
 |false=>
  rw[if_pos (show((Value.bool false != Value.bool true)=true)from rfl)];refine wX (wpAny_setField_rec hz (by simp) λh' M s'=>wY (q h' M s'))
end
section
variable {prog:Program}{w:World}{A:Around}{E:QV}{s:Shared}
def DX {k1 k2:Bool}{z TI TO T0 i1 i2 l1 l2:Addr}{f:Bool}{oT:Obj}{j:Nat}{xs ys:AV}{x y:Value}{Q:QV}(D:ZApart z TI TO i1 i2)(m1:l1≠z/\l1≠TO/\l1≠i1)(m2:l2≠z/\l2≠TO/\l2≠i1/\l2≠i2)
  (hz:oB s.heap z TI TO T0 f) (hT:s.heap.get? T0=some oT) (hI:IsPair s.heap TI (.ref i1) (.ref i2)) (t1:l5 k1 s.heap i1 l1 j) (t2:l5 k2 s.heap i2 l2 j) (q1:kG k1 s.heap l1 xs) (q2:kG k2 s.heap l2 ys) (hx:xs[j]? = some x) (hy:ys[j]? = some y)
  (q:∀h',oB h' z TI TO T0 true->l5 k1 h' i1 l1 (j+1)->l5 k2 h' i2 l2 (j+1)->IsPair h' s.heap.objs.size x y ->
   (∀c o,c≠z->c≠i1->c≠i2->s.heap.get? c=some o->h'.get? c=some o)->Q (.ref s.heap.objs.size) { s with heap:=h' }):
  wpAny (model prog w) A (Builtin.«zip.__next__» ⟨[.ref z],[]⟩) (λju s'=>∃v,ju=.done (.ret v)/\Q v s') E s:=by
 show wpAny _ _ (field (.ref z) 2>>=_) _ _ s;refine wX (wpAny_field hz rfl (x:=.bool false) rfl ?_);show wpAny _ _ (field (.ref z) 3>>=_) _ _ s;refine wX (wpAny_field hz rfl (x:=.ref TI) rfl (wX (wpAny_seqItems hI rfl ?_)));show wpAny _ _ (Builtin.SmallTypes.ownedTupleIsFree (.ref z)>>=_) _ _ s;refine wX (vq hz hT λg1 hz1 s1=>?_);simp only[uV,if_false];refine wX ?_;simp only[←Array.forIn_toList,forIn_cons,forIn_nil];refine wX (wX (wpAny_holding ?_));show wpAny _ _ (Builtin.SmallTypes.nextOf (.ref i1)>>=_) _ _ { s with heap:=g1 };refine wX (fZ (s:={ s with heap:=g1 }) (t1.upon λo e=>s1.extBut _ _ D.az e) (q1.upon λo e=>s1.extBut _ _ m1.1 e) hx λg2 t12 s2=>wY ?_);refine wY (wX (wX (wpAny_holding ?_)));show wpAny _ _ (Builtin.SmallTypes.nextOf (.ref i2)>>=_) _ _ { s with heap:=g2 };have G:∀ {c o},c≠z->c≠i1->s.heap.get? c=some o->g2.get? c=some o:=λO T e=>s2.extBut _ _ T (s1.extBut _ _ O e);refine wX (fZ (s:={ s with heap:=g2 }) (t2.upon λo e=>G D.bz D.ab.symm e) (q2.upon λo e=>G m2.1 m2.2.2.1 e) hy λM t24 U=>wY ?_);refine wY (wY ?_);refine wX (wpAny_newTuple (hsz:=(by decide:2<=sizeLine)) ?_);have sz:M.objs.size=s.heap.objs.size:=by rw[U.1,s2.1,s1.1]
 have Xo:∀c o,c≠z->c≠i1->c≠i2->s.heap.get? c=some o->M.get? c=some o:=λc o O T c4 e=>U.extBut _ _ c4 (G O T e);refine wY ⟨_,rfl,?_⟩;show Q (.ref M.objs.size) { s with heap:=M.push { cls:=.type "tuple",data:=.seq #[x,y] } };have hp:IsPair (M.push { cls:=.type "tuple",data:=.seq #[x,y] }) M.objs.size x y:=vY _ rfl;rw[sz]at hp ⊢;exact q _ (vZ _ (U.extBut _ _ D.bz.symm (s2.extBut _ _ D.az.symm hz1))) (t12.upon λo e=>vZ _ (U.extBut _ _ D.ab e)) (t24.upon λo e=>vZ _ e) hp λc o O T c4 e=>vZ _ (Xo c o O T c4 e)
def Gr {k1 k2:Bool}{z TI TO U i1 i2 l1 l2:Addr}{f:Bool}{oT:Obj}{j:Nat}{xs ys:AV}{Q:PySem.Fin->Shared->Prop}(hA:A.handled=none)(D:ZApart z TI TO i1 i2)(m1:l1≠z/\l1≠TO/\l1≠i1)(m2:l2≠z/\l2≠TO/\l2≠i1/\l2≠i2)
  (hz:oB s.heap z TI TO U f) (hT:s.heap.get? U=some oT) (hI:IsPair s.heap TI (.ref i1) (.ref i2)) (t1:l5 k1 s.heap i1 l1 j) (t2:l5 k2 s.heap i2 l2 j) (q1:kG k1 s.heap l1 xs) (q2:kG k2 s.heap l2 ys) (he:xs[j]? = none∨ys[j]? = none)
  (q:∀h' x,(∀c o,c≠z->c≠i1->c≠i2->s.heap.get? c=some o->h'.get? c=some o)->(∃o,h'.get? x=some o/\o.cls=.type "StopIteration")->E (.ref x) { s with heap:=h' }):
  wpAny (model prog w) A (Builtin.«zip.__next__» ⟨[.ref z],[]⟩) Q E s:=by
 show wpAny _ _ (field (.ref z) 2>>=_) _ _ s;refine wX (wpAny_field hz rfl (x:=.bool false) rfl ?_);show wpAny _ _ (field (.ref z) 3>>=_) _ _ s;refine wX (wpAny_field hz rfl (x:=.ref TI) rfl (wX (wpAny_seqItems hI rfl ?_)));show wpAny _ _ (Builtin.SmallTypes.ownedTupleIsFree (.ref z)>>=_) _ _ s;refine wX (vq hz hT λg1 hz1 s1=>?_);simp only[uV,if_false];refine wX ?_;simp only[←Array.forIn_toList,forIn_cons,forIn_nil];refine wX (wX (wpAny_holding ?_));show wpAny _ _ (Builtin.SmallTypes.nextOf (.ref i1)>>=_) _ _ { s with heap:=g1 };cases hx:xs[j]? with
 |none=>
  exact wX (jz (s:={ s with heap:=g1 }) hA (t1.upon λo e=>s1.extBut _ _ D.az e) (q1.upon λo e=>s1.extBut _ _ m1.1 e) hx λM x s2 hX=>q M x (λc o O T _ e=>s2 _ _ T (s1.extBut _ _ O e)) hX)
 |some v=>
  have hy:ys[j]? = none:=by
   rcases he with h|h
   ·rw[hx]at h;cases h
   ·exact h
  refine wX (fZ (s:={ s with heap:=g1 }) (t1.upon λo e=>s1.extBut _ _ D.az e) (q1.upon λo e=>s1.extBut _ _ m1.1 e) hx λM t12 s2=>wY ?_);refine wY (wX (wX (wpAny_holding ?_)));show wpAny _ _ (Builtin.SmallTypes.nextOf (.ref i2)>>=_) _ _ { s with heap:=M };have G:∀ {c o},c≠z->c≠i1->s.heap.get? c=some o->M.get? c=some o:=λO T e=>s2.extBut _ _ T (s1.extBut _ _ O e);exact wX (jz (s:={ s with heap:=M }) hA (t2.upon λo e=>G D.bz D.ab.symm e) (q2.upon λo e=>G m2.1 m2.2.2.1 e) hy λg4 x s4 hX=>q g4 x (λc o O T c4 e=>s4 _ _ c4 (G O T e)) hX)
end
structure ZA (k1 k2:Bool)(z TI TO i1 i2 l1 l2:Addr):Prop where
 D:ZApart z TI TO i1 i2
 m1:l1≠z/\l1≠TO/\l1≠i1
 m2:l2≠z/\l2≠TO/\l2≠i1/\l2≠i2
def Gs (k1 k2:Bool)(z TI TO i1 i2 l1 l2 S:Addr)(i:Nat)(h:Heap):Prop :=
 IsPair h TI (.ref i1) (.ref i2)/\l5 k1 h i1 l1 i/\l5 k2 h i2 l2 i/\((IsZip h z TI TO .none/\∃a b,IsPair h TO a b)∨∃G f M O,oB h z TI TO G f/\h.get? G=some M/\G∉[z,TI,TO,i1,i2]/\G≠S/\h.get? TO=some O)
def Gs.keep {k1 k2:Bool}{z TI TO i1 i2 l1 l2 S:Addr}{i:Nat}{h h':Heap}(st:Gs k1 k2 z TI TO i1 i2 l1 l2 S i h)(G:S∉[z,TI,TO,i1,i2])(k:∀b o,b≠S->h.get? b=some o->h'.get? b=some o):Gs k1 k2 z TI TO i1 i2 l1 l2 S i h':=by
 obtain⟨M,O,T,U⟩:=st;have n:∀ {b},b∈[z,TI,TO,i1,i2]->b≠S:=λhb e=>G (e ▸ hb);refine⟨k _ _ (n (by simp)) M,O.upon λo e=>k _ o (n (by simp)) e,T.upon λo e=>k _ o (n (by simp)) e,?_⟩;rcases U with⟨b1,a,b,b2⟩|⟨T0,f,oT,oO,b1,b2,b3,b4,b5⟩
 ·exact .inl ⟨k _ _ (n (by simp)) b1,a,b,k _ _ (n (by simp)) b2⟩
 ·exact .inr ⟨T0,f,oT,oO,k _ _ (n (by simp)) b1,k _ _ b4 b2,b3,b4,k _ _ (n (by simp)) b5⟩
section
variable {prog:Program}{w:World}{A:Around}{E:QV}{s:Shared}{k1 k2:Bool}{z TI TO i1 i2 l1 l2 S:Addr}{j:Nat}{xs ys:AV}
def Gs.ty (st:Gs k1 k2 z TI TO i1 i2 l1 l2 S j h):∃o,h.get? z=some o/\o.cls=.type "zip":=by
 obtain⟨_,_,_,G⟩:=st;rcases G with⟨b1,_⟩|⟨M,f,O,T,b1,_⟩
 ·exact⟨_,b1,rfl⟩
 ·exact⟨_,b1,rfl⟩
def Gu (Z:ZA k1 k2 z TI TO i1 i2 l1 l2)(hS:S<s.heap.objs.size)(st:Gs k1 k2 z TI TO i1 i2 l1 l2 S j s.heap)(q1:kG k1 s.heap l1 xs)(q2:kG k2 s.heap l2 ys)(hx:xs[j]? = some x)(hy:ys[j]? = some y)
  (q:∀h',Gs k1 k2 z TI TO i1 i2 l1 l2 S (j+1) h'->IsPair h' s.heap.objs.size x y->(∀c o,c∉[z,TI,TO,i1,i2]->s.heap.get? c=some o->h'.get? c=some o)->Q (some (.ref s.heap.objs.size)) { s with heap:=h' }):
  wpAny (model prog w) A (pyNext (.ref z)) Q E s:=by
 have M:s.TypeIs (.ref z) "zip":=st.ty;obtain⟨G,U,t2,a4⟩:=st;have lt:∀ {c o},s.heap.get? c=some o->s.heap.objs.size≠c:=λe=>ne_of_gt (vX e);obtain⟨o1,e1,_⟩:=U.ob;obtain⟨o2,e2,_⟩:=t2.ob;unfold pyNext;rcases a4 with⟨hz,a,b,O⟩|⟨T0,f,oT,oO,hz,h0,n0,nS,O⟩
 ·refine wX (wpAny_attempt (wpAny_callSpecial?_slot (name:=Str.ofString "__next__") M slot_zip_next (wpAny_call_entry slot_zip_next M entry_zip_next (yF Z.D Z.m1 Z.m2 hz G O U t2 q1 q2 hx hy λh' b1 b2 b3 b4 T b6 bk=>wY ?_) (args_zip_next_1 _))));refine q h' ⟨bk _ _ Z.D.tz Z.D.to Z.D.ta Z.D.tb G,b3,b4,.inr ⟨_,false,_,_,b1,T,?_,ne_of_gt hS,b2⟩⟩ T λc o hc e=>bk c o (λz=>hc (by simp[z])) (λz=>hc (by simp[z])) (λz=>hc (by simp[z])) (λz=>hc (by simp[z])) e;simp only[mem_cons,not_mem_nil,or_false,not_or];exact⟨lt hz,lt G,lt O,lt e1,lt e2⟩
 ·refine wX (wpAny_attempt (wpAny_callSpecial?_slot (name:=Str.ofString "__next__") M slot_zip_next (wpAny_call_entry slot_zip_next M entry_zip_next (DX Z.D Z.m1 Z.m2 hz h0 G U t2 q1 q2 hx hy λh' b1 b3 b4 T bk=>wY ?_) (args_zip_next_1 _))));exact q h' ⟨bk _ _ Z.D.tz Z.D.ta Z.D.tb G,b3,b4,.inr ⟨T0,true,oT,oO,b1,bk _ _ (λz=>n0 (by simp[z])) (λz=>n0 (by simp[z])) (λz=>n0 (by simp[z])) h0,n0,nS,bk _ _ Z.D.oz Z.D.oa Z.D.ob O⟩⟩ T λc o hc e=>bk c o (λz=>hc (by simp[z])) (λz=>hc (by simp[z])) (λz=>hc (by simp[z])) e
def Gw (O:A.handled=none)(Z:ZA k1 k2 z TI TO i1 i2 l1 l2)(st:Gs k1 k2 z TI TO i1 i2 l1 l2 S j s.heap)(U:kG k1 s.heap l1 xs)(q2:kG k2 s.heap l2 ys)(he:xs[j]? = none∨ys[j]? = none)
  (q:∀h',(∀c o,c∉[z,TI,TO,i1,i2]->s.heap.get? c=some o->h'.get? c=some o)->Q none { s with heap:=h' }):wpAny (model prog w) A (pyNext (.ref z)) Q E s:=by
 have G:s.TypeIs (.ref z) "zip":=st.ty;obtain⟨hI,t1,t2,a4⟩:=st;unfold pyNext;rcases a4 with⟨hz,a,b,hO⟩|⟨T0,f,oT,oO,hz,h0,n0,nS,hO⟩
 ·refine wX (wpAny_attempt (wpAny_callSpecial?_slot (name:=Str.ofString "__next__") G slot_zip_next (wpAny_call_entry slot_zip_next G entry_zip_next (Ca O Z.D Z.m1 Z.m2 hz hI hO t1 t2 U q2 he λh' x hk hX=>?_) (args_zip_next_1 _))));obtain⟨o,M,co⟩:=hX;exact wX (wpAny_isInstance (T:="StopIteration") (b:=true) ⟨o,M,co⟩ isSubtype_stop (wY (q h' λc o hc e=>hk c o (λz=>hc (by simp[z])) (λz=>hc (by simp[z])) (λz=>hc (by simp[z])) (λz=>hc (by simp[z])) e)))
 ·refine wX (wpAny_attempt (wpAny_callSpecial?_slot (name:=Str.ofString "__next__") G slot_zip_next (wpAny_call_entry slot_zip_next G entry_zip_next (Gr O Z.D Z.m1 Z.m2 hz h0 hI t1 t2 U q2 he λh' x hk hX=>?_) (args_zip_next_1 _))));obtain⟨o,M,co⟩:=hX;exact wX (wpAny_isInstance (T:="StopIteration") (b:=true) ⟨o,M,co⟩ isSubtype_stop (wY (q h' λc o hc e=>hk c o (λz=>hc (by simp[z])) (λz=>hc (by simp[z])) (λz=>hc (by simp[z])) e)))
end
def Gx (h:a≠b):upd (upd H a o) b u=upd (upd H b u) a o:=by
 funext c;unfold upd;by_cases h1:c=b
 ·by_cases h2:c=a
  ·exact absurd (h2.symm.trans h1) h
  ·rw[if_pos h1,if_neg h2,if_pos h1]
 ·rw[if_neg h1];by_cases h2:c=a
  ·rw[if_pos h2,if_pos h2]
  ·rw[if_neg h2,if_neg h2,if_neg h1]
def kL (h:H a=none):aZ H (upd H a o):=λb u e=>by rw[aG (bf e h)];exact e
def DY (h:(jh ds es)[i]? = some d):(jh ds es).take (i+1)=(jh ds es).take i++[d]:=by
 rw[take_add_one,h];rfl
def Bg:typeLookup (.type "zip") "__len__" = pure none:=by rw[typeLookup_type,builtinLookup_eq_fast];kernel_rfl
def zi:typeLookup (.type "zip") "__length_hint__" = pure none:=by rw[typeLookup_type,builtinLookup_eq_fast];kernel_rfl
section
variable {X:Cx}{ah:AO}{σ:St}{B H0:Hp}{A:Around}{R:Result->Shared->Prop}{k1 k2:Bool}{z TI TO i1 i2 l1 l2 S:Addr}{us ws:LV}{ds es:LD}
def DZ (hA:A.handled=none)(Z:ZA k1 k2 z TI TO i1 i2 l1 l2)(hS:S∉[z,TI,TO,i1,i2])(h1:mf k1 X.K B l1 us)(j1:IsL X.K B us ds)(h2:mf k2 X.K B l2 ws)(j2:IsL X.K B ws es)
  (hR:∀G N vs s',Inv X ah σ (upd G S (.lst vs)) s'->G S=none->Ext B N H0 G->IsL X.K N vs (jh ds es)->R (.ok (.ret .none)) s'):
  ∀(k i:Nat)(s:Shared)(G N:Hp)(vs:LV),(jh ds es).length - i=k->i<=(jh ds es).length->Inv X ah σ (upd G S (.lst vs)) s->G S=none->Ext B N H0 G->(∀b∈[z,TI,TO,i1,i2],ma X ah (upd G S (.lst vs)) b) ->
   Gs k1 k2 z TI TO i1 i2 l1 l2 S i s.heap->IsL X.K N vs ((jh ds es).take i) ->
   codeAny (model X.prog X.w) A (.builtin "list.extend.loop" ⟨[.ref S,.ref z,.none],[]⟩) R s:=by
 have n1:=j1.length;have n2:=j2.length;have nz:(jh ds es).length=min ds.length es.length:=by unfold jh;rw[List.length_zipWith]
 intro k;induction k with
 |zero=>
  intro i s G N vs hk hi I hc M fp st U;have HW:i=(jh ds es).length:=by omega
  have sm:aZ B (upd G S (.lst vs)):=(M.bn.trans M.nh).trans (kL hc);obtain⟨its,r1,p1,z1⟩:=(h1.same sm).vals I;obtain⟨BA,r2,p2,z2⟩:=(h2.same sm).vals I;have e1:=r1.length;have e2:=r2.length;refine codeAny_builtin PySem.F.entry_extend_loop ?_;rw[Around.under_plainId plain_extend_loop _];show wpAny _ A.in1 (pyNext (.ref z)>>=_) _ _ s;refine wX (Gw (A:=A.in1) hA Z st p1 p2 ?_ λh' O=>?_)
  ·by_cases q:ds.length<=es.length
   ·left;simp;omega
   ·right;simp;omega
  ·refine wY (hR G N vs _ (jM (t':=s.toks) I fp O) hc M ?_);rw[HW,take_length]at U;exact U
 |succ k ih=>
  intro i s G N vs hk hi I hc M fp st U;have Ay:i<(jh ds es).length:=by omega
  have sm:aZ B (upd G S (.lst vs)):=(M.bn.trans M.nh).trans (kL hc);obtain⟨its,r1,p1,z1⟩:=(h1.same sm).vals I;obtain⟨BA,r2,p2,z2⟩:=(h2.same sm).vals I;have d1:i<ds.length:=by omega
  have d2:i<es.length:=by omega
  obtain⟨x,hx,ix⟩:=j1.get (vU d1);obtain⟨y,hy,iy⟩:=j2.get (vU d2);obtain⟨u,hu,ru⟩:=r1.get hx;obtain⟨v,hv,rv⟩:=r2.get hy;have el:(jh ds es)[i]? = some (.tup [ds[i],es[i]]):=by
   unfold jh;rw[List.getElem?_zipWith,vU d1,vU d2]
  obtain⟨zl,Ap,c,Xp,Yh,eS⟩:=I.lstM aB;have NE:S<s.heap.objs.size:=vX eS;refine codeAny_builtin PySem.F.entry_extend_loop ?_;rw[Around.under_plainId plain_extend_loop _];show wpAny _ A.in1 (pyNext (.ref z)>>=_) _ _ s;refine wX (Gu (A:=A.in1) Z NE st p1 p2 (by simpa using hu) (by simpa using hv) λh' N6 hp O=>?_);have fr:upd G S (.lst vs) s.heap.objs.size=none:=I.hok.fresh (vT _);have nS:s.heap.objs.size≠S:=ne_of_gt NE;have UG:G s.heap.objs.size=none:=by rw[aG nS]at fr;exact fr
  have new:bR X.prog X.w (upd (upd G S (.lst vs)) s.heap.objs.size (.tup [x,y])) h' s.heap.objs.size (.tup [x,y]):=⟨by show 2<=sizeLine;decide,[u,v],.cons ru (.cons rv .nil),⟨_,hp,rfl,_,rfl⟩⟩;have I1:Inv X ah σ (upd (upd G S (.lst vs)) s.heap.objs.size (.tup [x,y])) { s with heap:=h' }:=Cb (s:=s) (t':=s.toks) I fp O (vT _) new;rw[Gx nS.symm]at I1;have UH:h'.get? S=some { cls:=.type "list",data:=.seq Ap.toArray c }:=O S _ hS eS;have T:Ext B (upd N s.heap.objs.size (.tup [x,y])) H0 (upd G s.heap.objs.size (.tup [x,y])):=M.trans (Ext.laid M.nh UG);have vl:vs.length=i:=by rw[U.length,length_take];omega
  have zs:=zl;show wpAny _ A.in1 (updateSeq S (·.push (Value.ref s.heap.objs.size))>>=_) _ _ _;refine wX ?_;have lz:(vs++[V.ref s.heap.objs.size]).length<=sizeLine:=by
   rw[uZ,vl];have a1:=z1;show i+1<=sizeLine;omega
  have I2:=I1.lset (t':=s.toks) (ys:=vs++[.ref s.heap.objs.size]) (its':=Ap++[.ref s.heap.objs.size]) (f:=(·.push (Value.ref s.heap.objs.size))) aB UH (by simp) (Xp.append (.cons (show be (.ref _) (.ref _)from rfl) .nil)) lz;rw[mB]at I2;refine wpAny_updateSeq UH rfl (wY ⟨plainId_quiet plain_extend_loop _,ih (i+1) _ _ _ (vs++[.ref s.heap.objs.size]) (by omega) Ay I2 (by rw[aG nS.symm];exact hc) T (λb hb=>?_) (N6.keep hS λb o hb e=>(Heap.get?_update_other _ _ (Ne.symm hb)).trans e) ?_⟩) (by simp;omega) (by simp;omega)
  ·obtain⟨f0,f1,f2,f3,f4,f5⟩:=fp b hb;refine⟨?_,f1,f2,f3,f4,f5⟩;have nb:b≠S:=λe=>hS (e ▸ hb);rw[aG nb]at f0 ⊢;have nT:b≠s.heap.objs.size:=by
    obtain⟨hI,t1,t2,a4⟩:=st;obtain⟨o1,e1,_⟩:=t1.ob;obtain⟨o2,e2,_⟩:=t2.ob;simp only[mem_cons,not_mem_nil,or_false]at hb;have lt:∀ {c o},s.heap.get? c=some o->c≠s.heap.objs.size:=λe=>vS (vX e);have hO:∃o,s.heap.get? TO=some o/\∃o,s.heap.get? z=some o:=by
     rcases a4 with⟨hz,a,b,hO⟩|⟨T0,f,oT,oO,hz,h0,n0,nS,hO⟩
     ·exact⟨_,hO,_,hz⟩
     ·exact⟨_,hO,_,hz⟩
    obtain⟨o3,e3,o4,e4⟩:=hO;rcases hb with rfl|rfl|rfl|rfl|rfl
    ·exact lt e4
    ·exact lt hI
    ·exact lt e3
    ·exact lt e1
    ·exact lt e2
   rw[aG nT];exact f0
  ·rw[DY el];exact(U.mono (Ext.laid M.nh UG).bn).append (.cons (.tup (js.of aB) (.cons (ix.mono T.bn) (.cons (iy.mono T.bn) .nil))) .nil)
end
section
variable {X:Cx}{ah:AO}{σ:St}{B H:Hp}{s:Shared}{k1 k2:Bool}{z TI TO i1 i2 l1 l2:Addr}{us ws:LV}{ds es:LD}
def ui (hA:X.A.handled=none)(I:Inv X ah σ H s)(Z:ZA k1 k2 z TI TO i1 i2 l1 l2)(fp:∀b∈[z,TI,TO,i1,i2],ma X ah H b)
  (hI:IsPair s.heap TI (.ref i1) (.ref i2)) (t1:l5 k1 s.heap i1 l1 0) (t2:l5 k2 s.heap i2 l2 0) (hz:IsZip s.heap z TI TO .none) (hO:IsPair s.heap TO a b)
  (sB:aZ B H) (h1:mf k1 X.K B l1 us) (j1:IsL X.K B us ds) (h2:mf k2 X.K B l2 ws) (j2:IsL X.K B ws es)
  (q:∀(S:Addr)(U N:Hp)(vs:LV),U S=none->Ext B N H U->IsL X.K N vs (jh ds es)->Q (.ref S) (upd U S (.lst vs))):
  wq X (call (.type "list") [.ref z]) (EP X ah σ Q) X.xe s:=by
 have lt:∀ {c o},s.heap.get? c=some o->s.heap.objs.size≠c:=λe=>ne_of_gt (vX e);have G:s.heap.objs.size∉[z,TI,TO,i1,i2]:=by
  obtain⟨o1,e1,_⟩:=t1.ob;obtain⟨o2,e2,_⟩:=t2.ob;simp only[mem_cons,not_mem_nil,or_false,not_or];exact⟨lt hz,lt hI,lt hO,lt e1,lt e2⟩
 have nz:s.heap.objs.size≠z:=lt hz;have Xq:Gs k1 k2 z TI TO i1 i2 l1 l2 s.heap.objs.size 0 s.heap:=⟨hI,t1,t2,.inl ⟨hz,a,b,hO⟩⟩;have hc:H s.heap.objs.size=none:=I.fresh;refine callType_codes (Q₁:=λobj O=>obj=.ref s.heap.objs.size/\O={ s with heap:=s.heap.push { cls:=.type "list",data:=.seq #[] } }) PySem.F.called_list (PySem.F.typeCall_list_1 _) PySem.F.entry_list_init
  (code_list_new _ ⟨rfl,rfl⟩) λobj O h₁=>?_
 obtain⟨rfl,rfl⟩:=h₁;have hS:(s.heap.push { cls:=.type "list",data:=.seq #[] }).get? s.heap.objs.size=some { cls:=.type "list",data:=.seq ([]:LU).toArray }:=vY _ rfl;have I1:Inv X ah σ (upd H s.heap.objs.size (.lst [])) { s with heap:=s.heap.push { cls:=.type "list",data:=.seq #[] } }:=I.lnew (t':=s.toks) (its:=[]) .nil (uN _);have Xr:Gs k1 k2 z TI TO i1 i2 l1 l2 s.heap.objs.size 0 (s.heap.push { cls:=.type "list",data:=.seq #[] }):=Xq.keep G λb o _ e=>vZ _ e;refine⟨⟨_,hS,rfl⟩,PySem.F.args_list_init_2 _ _,?_⟩;show wpAny _ _ (do let old ←Builtin.List.listItems (.ref s.heap.objs.size);Builtin.List.listUpdate (.ref s.heap.objs.size) (λ_=>#[]);letGo old.toList.reverse;Builtin.List.listExtendWith (.ref s.heap.objs.size) (.ref z) .none) _ _ _;refine wX ?_;unfold Builtin.List.listItems;refine wX (wpAny_seqItems hS rfl (wY ?_));show wpAny _ _ (updateSeq s.heap.objs.size (λ_=>#[])>>=λ_=>letGo (#[]:AV).toList.reverse>>=λ_=>Builtin.List.listExtendWith (.ref s.heap.objs.size) (.ref z) .none) _ _ _;refine wX (wpAny_updateSeq hS rfl ?_);have I2:=I1.lset (t':=s.toks) (ys:=[]) (its':=[]) (f:=λ_=>#[]) aB hS rfl .nil (uN _);have M:=Xr.keep (h':=(s.heap.push { cls:=.type "list",data:=.seq #[] }).update s.heap.objs.size (Obj.mapSeq λ_=>(#[]:AV))) G λb o hb e=>(Heap.get?_update_other _ _ (Ne.symm hb)).trans e;rw[mB]at I2;generalize hg2:(s.heap.push { cls:=.type "list",data:=.seq #[] }).update s.heap.objs.size (Obj.mapSeq λ_=>(#[]:AV))=g2 at I2 M ⊢;obtain⟨_,Xs,c2,v2,_,Lu⟩:=I2.lstM aB;have e2:=v2.zero;subst e2;refine wX (wpAny_letGo ?_);unfold Builtin.List.listExtendWith;refine wX (wpAny_typeOf (T:="zip") M.ty ?_);have Xt:Builtin.List.listSameRef (.ref s.heap.objs.size) (.ref z)=false:=by simp[Builtin.List.listSameRef,nz]
 have Of:(Value.type "zip" == Value.type "list")=false:=by decide
 have QW:(Value.type "zip" == Value.type "tuple")=false:=by decide
 simp only[Xt,Of,QW,Bool.or_false,uV,if_false];have QO:IsZip g2 z TI TO .none:=by
  rw[←hg2];exact(Heap.get?_update_other _ _ nz).trans (vZ _ hz)
 refine wX (wpAny_pyIter_zip QO ?_);refine wX (wpAny_holding ?_);unfold Builtin.List.listLengthHint;refine wX (wpAny_specialOf (T:="zip") M.ty Bg ?_);show wpAny _ _ (specialOf (Value.ref z) (Str.ofString "__length_hint__")>>=_) _ _ _;refine wX (wpAny_specialOf (T:="zip") M.ty zi ?_);refine wY ?_;show wpAny _ _ (rule "list.extend.makes-room" >>= λ_=>Builtin.List.listTouch (.ref s.heap.objs.size)>>=λ_=>
  again (.builtin "list.extend.loop" ⟨[.ref s.heap.objs.size,.ref z,.none],[]⟩)) _ _ _
 refine wX (wpAny_rule ?_);refine wX ?_;show wpAny _ _ (updateSeq s.heap.objs.size (·.push .none)>>=λ_=>updateSeq s.heap.objs.size (·.pop)) _ _ _;refine wX (wpAny_updateSeq Lu rfl ?_);have I3:=I2.lset (t':=s.toks) (ys:=[.non]) (its':=[.none]) (f:=(·.push .none)) aB Lu rfl (.cons (show be .non .none from rfl) .nil) (by show 1<=sizeLine;decide);have PL:=M.keep (h':=g2.update s.heap.objs.size (Obj.mapSeq (·.push .none))) G λb o hb e=>(Heap.get?_update_other _ _ (Ne.symm hb)).trans e;rw[mB]at I3;generalize hg3:g2.update s.heap.objs.size (Obj.mapSeq (·.push .none))=g3 at I3 PL ⊢;obtain⟨_,Xu,c3,v3,_,QP⟩:=I3.lstM aB;obtain⟨n3,rfl,r3⟩:=v3.one;cases r3
 refine wpAny_updateSeq (hz:=by simp<;>decide) QP rfl ?_
 have I4:=I3.lset (t':=s.toks) (ys:=[]) (its':=[]) (f:=(·.pop)) aB QP rfl .nil (uN _);have Xv:=PL.keep (h':=g3.update s.heap.objs.size (Obj.mapSeq (·.pop))) G λb o hb e=>(Heap.get?_update_other _ _ (Ne.symm hb)).trans e;rw[mB]at I4;refine wY ⟨plainId_quiet plain_extend_loop _,DZ (A:=X.A.in1) (B:=B) (H0:=H) hA Z G h1 j1 h2 j2 (λU N vs s' I' Nq xt il=>?_) _ 0 _ H B [] rfl (uN _) I4 hc (Ext.refl sB) (λb hb=>?_) Xv .nil⟩
 ·exact⟨rfl,.ref s.heap.objs.size,_,I',rfl,q _ U N vs Nq xt il⟩
 ·obtain⟨f0,f1⟩:=fp b hb;refine⟨?_,f1⟩;have nb:b≠s.heap.objs.size:=λe=>G (e ▸ hb);rw[aG nb];exact f0
end
@[simp] def T7 (fa G:FE):FE:=λρ=>(FI fa G ρ).map λds=>(.lst ds,true)
section
variable {X:Cx}{a b:Expr}{pos p pos2 p2:Pos}
def Bh (Te:X.calm=true)(hl:X.mg "list" = none)(hm:X.mg "zip" = none)(ha:JE X a fa)(hb:JE X b fb)(Xw:Gl X "list":=by rfl)(hg:Gl X "zip":=by rfl)
  (hs:starEach [a,b] X.env=[(false,eval a X.env),(false,eval b X.env)]:=by rfl) (M:starEach [b] X.env=[(false,eval b X.env)]:=by rfl)
  (QW:starEach [.Call (.Name "zip" p2) [a,b] [] pos2] X.env=[(false,eval (.Call (.Name "zip" p2) [a,b] [] pos2) X.env)]:=by rfl):
  JE X (.Call (.Name "list" p) [.Call (.Name "zip" p2) [a,b] [] pos2] [] pos) (T7 fa fb):=by
 intro ah s σ H Q I q;obtain⟨B,ρ,d,bb,sB,r,G,ju⟩:=q;obtain⟨zs,UI,e2⟩:=oY G;cases e2
 clear G;have G:=UI;clear UI;obtain⟨x1,ex,G⟩:=oX G;obtain⟨y1,ey,G⟩:=oX G;obtain⟨xs,Xx,G⟩:=oX G;obtain⟨ys,Xy,G⟩:=oY G;subst G;refine wpAny_Call_Name_kw (i6 I Xw hl AK ?_ (by decide) (by decide));refine PyProof.Rows.callWith_type1 ?_ (by rw[QW];rfl) rfl;rw[QW];show wpAny _ _ (spliced ((false,eval (.Call (.Name "zip" p2) [a,b] [] pos2) X.env)::backTo pos [])) _ _ s;refine Calls.spliced_cons ?_;refine wpAny_Call_Name_kw (i6 I hg hm Lf ?_ (by decide) (by decide));refine PyProof.Rows.callWith_type1 (c7 (ai ha (ai hb ao M) (by rw[hs,M]) pos2 ah s σ H (λvs H1=>∃N1,Ext B N1 H H1/\IsL X.K N1 vs [x1.1,y1.1]) I ⟨B,ρ,[x1.1,y1.1],sB,r,by simp[ag,aj,ex,ey],λvs H1 N1 U i1=>⟨N1,U,i1⟩⟩) λus s1 ⟨vs,H1,I1,r1,N1,U,il⟩=>?_) (by rw[hs,M]) (by rw[M];rfl);cases il with
 |cons j1 j2=>
  cases j2 with
  |cons j2 j3=>
   cases j3
   obtain⟨k1,l1,Yi,rfl,h1,m1⟩:=yG j1 Xx;obtain⟨k2,l2,Yj,rfl,h2,m2⟩:=yG j2 Xy;obtain⟨u1,u2,rfl,Nz,Sw⟩:=r1.two;cases Nz
   cases Sw
   obtain⟨its,v1,p1,z1⟩:=(h1.same U.nh).vals I1;obtain⟨BA,v2,p2,z2⟩:=(h2.same U.nh).vals I1;have ED:=p1.lt;have O:=p2.lt;refine BZ p1 p2 λh' c1 c2 c3 c4 c5 ck=>?_;have D:ZApart (s1.heap.objs.size+4) (s1.heap.objs.size+2) (s1.heap.objs.size+3) s1.heap.objs.size (s1.heap.objs.size+1):=by
    constructor<;>(intro z;exact absurd z (by first|exact vS (Nat.add_lt_add_left (by decide) _)|exact ne_of_gt (Nat.add_lt_add_left (by decide) _)|exact vS (Nat.lt_add_of_pos_right (by decide))|exact ne_of_gt (Nat.lt_add_of_pos_right (by decide))))
   have nf:∀ {l:Addr}(n:Nat),l<s1.heap.objs.size->l≠s1.heap.objs.size+n:=λn hl=>vS (vQ hl (le_add_right _ n));refine Calls.spliced_nil ?_;refine ui (s:={ s1 with heap:=h' }) (k1:=k1) (k2:=k2) (B:=N1) (H:=H1) (I1.ok.hd Te) (I1.kept (t':=s1.toks) ck) ⟨D,⟨nf 4 ED,nf 3 ED,nf 0 ED⟩,⟨nf 4 O,nf 3 O,nf 0 O,nf 1 O⟩⟩ (λb hb=>?_) c2 c4 c5 c1 c3 U.nh h1 m1 h2 m2 λS Hc N vs hS T il2=>?_
   ·have K7:s1.heap.objs.size<=b:=by
     simp at hb;rcases hb with rfl|rfl|rfl|rfl|rfl
     ·exact le_add_right _ 4
     ·exact le_add_right _ 2
     ·exact le_add_right _ 3
     ·exact vT _
     ·exact le_add_right _ 1
    exact I1.fpOk K7 (I1.hok.fresh K7)
   ·have x3:=(U.trans T).trans (Ext.laid (o:=.lst vs) T.nh hS);have UJ:=il2.mono (Ext.laid (o:=.lst vs) T.nh hS).bn;exact ju _ _ _ x3 (.lst (gT.of aB) UJ) λ_=>⟨_,_,_,rfl,rfl,(U.trans T).hh.free hS,aB,UJ⟩
end
end DL
namespace DL
open PySem PySem.Spec PyProof.Rows
def xG:typeLookup (.type "list") "keys" = pure none:=by rw[typeLookup_type,builtinLookup_eq_fast];kernel_rfl
def Ea 
  (hx:s.heap.get? a=some { cls:=.type "list",dict:=none,data:=.seq xs k,slots:=sl }) (O:A.handled=none)
  (h:∀h' tk,(∀b o,s.heap.get? b=some o->h'.get? b=some o)->Q none { s with heap:=h',toks:=tk }):
  wpAny (model prog w) A (getAttr? (.ref a) "keys") Q E s:=by
 obtain⟨hp,g,d,tk,os⟩:=s;have M:∀G,(⟨hp,g,d,G,os⟩:Shared).TypeIs (.ref a) "list":=λ_=>⟨_,hx,rfl⟩;have f1:=sub_AttributeError;have f3:=slot_list_getattribute.lookup;have f4:=slot_list_getattribute.bind (.ref a);have f5:=am_list_getattr_none;unfold getAttr? getAttrBy? getAttrBy;repeat (any_goals (first|assumption|exact M _|((with_reducible show wpAny _ _ (call (Value.builtin "list.__getattribute__") _ _) _ _ _);refine call_meets slot_list_getattribute (M _) am_entry_list_getattribute (PySem.F.args_list_getattribute_2 _ _) (meets_getattribute_miss_list a xs k sl "keys" _ xG (by decide) (by decide)) ⟨hx,O,λh' G e hx'=>?_⟩)|wp_step))
 obtain⟨t',T,he⟩:=hx'.there;show wpAny _ _ (getattributeRaised _ _ _ _ _ _ _) _ _ _;unfold getattributeRaised;repeat (any_goals (first|assumption|wp_step))
 exact h _ _ hx'.of.keeps
end DL
namespace DL
open PySem PySem.Spec PyProof.Rows L2
def jj:LD->Option (List (eK×D))
 |[]=>some []
 |.tup [k,v]::r=>(lO k).bind λG=>(jj r).map λl=>(G,v)::l
 |_=>none
noncomputable def r6 (a:LK×LD)(p:eK×D):LK×LD:=(hZ a.1 p.1,eY a.1 a.2 p.1 p.2)
noncomputable def cb (l:List (eK×D)):LK×LD:=l.foldl r6 ([],[])
def rA (l:List (eK×D))(p:eK×D):cb (l++[p])=r6 (cb l) p:=by unfold cb;rw[foldl_append];rfl
theorem rB:∀ {ds:LD}{l:List (eK×D)},jj ds=some l->l.length=ds.length
 |[],l,h=>by simp[jj]at h;subst h;rfl
 |d::r,l,h=>by
  unfold jj at h;split at h
  ·rename_i h0;cases h0
  ·rename_i k v G h0;cases h0
   obtain⟨M,_,h⟩:=oX h;obtain⟨O,h1,rfl⟩:=oY h;simp[rB h1]
  ·cases h
theorem rC:∀ {ds:LD}{l:List (eK×D)}{i:Nat}{d:D},jj ds=some l->ds[i]? = some d->∃k v G,d=.tup [k,v]/\lO k=some G/\l[i]? = some (G,v)
 |[],l,i,d,_,h=>by simp at h
 |d0::r,l,i,d,h,hi=>by
  unfold jj at h;split at h
  ·rename_i h0;cases h0
  ·rename_i k v M h0;cases h0
   obtain⟨G,h2,h⟩:=oX h;obtain⟨O,h1,rfl⟩:=oY h;cases i with
   |zero=>simp at hi;subst hi;exact⟨k,v,G,rfl,h2,rfl⟩
   |succ i=>simp only[getElem?_cons_succ]at hi ⊢;exact rC h1 hi
  ·cases h
def Gy (l:List (eK×D)):∀a:LK×LD,a.1.length=a.2.length->(l.foldl r6 a).1.length=(l.foldl r6 a).2.length/\(l.foldl r6 a).1.length<=a.1.length+l.length:=by
 induction l with
 |nil=>intro a h;exact⟨h,vT _⟩
 |cons p l G=>
  intro a h;have h1:(r6 a p).1.length<=a.1.length+1:=by
   show(hZ _ _).length<=_;unfold hZ;split<;>simp
  have:=G (r6 a p) (ng h _ _);rw[foldl_cons,vE];exact⟨this.1,by omega⟩
def Eb (l:List (eK×D)):(cb l).1.length=(cb l).2.length/\(cb l).1.length<=l.length:=by
 have:=Gy l ([],[]) rfl;exact⟨this.1,vR this.2 (by simp)⟩
def vt:entryFor table "dict.update.loop" = some Builtin.«dict.update.loop»:=entryFor_of_tree (by kernel_rfl)
def lA:plainId "dict.update.loop" = true:=by decide +kernel
section
variable {X:Cx}{ah:AO}{σ:St}{B H0:Hp}{A:Around}{R:Result->Shared->Prop}{it l d:Addr}{us:LV}{ds:LD}{jE:List (eK×D)}
def Bi (hA:A.handled=none)(nl:l≠it)(nd:d≠it)(hl:gT X.K B l us)(il:IsL X.K B us ds)(hp:jj ds=some jE)
  (hR:∀G N vs ob s',Inv X ah σ (upd G d (.dK ((cb jE).1.zip vs) ob)) s'->G d=none->Ext B N H0 G->(cb jE).1.length=vs.length->IsL X.K N vs (cb jE).2->R (.ok (.ret .none)) s'):
  ∀(k i:Nat)(tk:Nat)(s:Shared)(G N:Hp)(vs:LV)(ob:Obj),ds.length - i=k->i<=ds.length->Inv X ah σ (upd G d (.dK ((cb (jE.take i)).1.zip vs) ob)) s->G d=none->Ext B N H0 G->ma X ah (upd G d (.dK ((cb (jE.take i)).1.zip vs) ob)) it ->
   s.heap.IsListIter it l i->(cb (jE.take i)).1.length=vs.length->IsL X.K N vs (cb (jE.take i)).2 ->
   codeAny (model X.prog X.w) A (.builtin "dict.update.loop" ⟨[.ref d,.ref it,.int i tk,.none],[]⟩) R s:=by
 have n1:=il.length;have n2:=rB hp;intro k;induction k with
 |zero=>
  intro i tk s G N vs ob hk hi I hc M fp st hz hv;have HW:i=ds.length:=by omega
  have sm:aZ B (upd G d (.dK ((cb (jE.take i)).1.zip vs) ob)):=(M.bn.trans M.nh).trans (kL hc);obtain⟨its,r1,p1,z1⟩:=I.list (sm.seq hl);have e1:=r1.length;refine codeAny_builtin vt ?_;rw[Around.under_plainId lA _];show wpAny _ A.in1 (pyNext (.ref it)>>=_) _ _ s;refine wX (wpAny_pyNext_list_end (A:=A.in1) hA st p1.isList (by simp;omega) λh' Lv=>?_);show wpAny _ _ (Builtin.Dict.addKeywords d []>>=_) _ _ _;refine wX (wY (wY ?_));have I1:=jM (t':=s.toks) (h':=h') (ch:=[it]) I (λb hb=>by rw[uT hb];exact fp) λb o hb e=>Lv b o (λq=>hb (by simp[q])) e;rw[HW,←n2,take_length]at I1 hz hv;exact hR G N vs ob _ I1 hc M hz hv
 |succ k ih=>
  intro i tk s G N vs ob hk hi I hc M fp st hz hv;have U:i<ds.length:=by omega
  have sm:aZ B (upd G d (.dK ((cb (jE.take i)).1.zip vs) ob)):=(M.bn.trans M.nh).trans (kL hc);obtain⟨its,r1,p1,z1⟩:=I.list (sm.seq hl);obtain⟨kd,vd,O,ed,ek,el⟩:=rC hp (vU U);obtain⟨x,hx,ix⟩:=il.get (vU U);rw[ed]at ix;cases ix with
  |@tup T xs _ hT hxs=>
   cases hxs with
   |cons ik r=>
    cases r with
    |cons iv r=>
     cases r
     rename_i xk xv;have Xz:=vp ik ek;subst Xz;obtain⟨u,hu,ru⟩:=r1.get hx;cases (show u=Value.ref T from ru)
     refine codeAny_builtin vt ?_;rw[Around.under_plainId lA _];show wpAny _ A.in1 (pyNext (.ref it)>>=_) _ _ s;refine wX (wpAny_pyNext_list_item (A:=A.in1) st p1.isList (x:=.ref T) (by simpa using hu) λh' N6 hs=>?_);have I1:=jM (t':=s.toks) (h':=h') (ch:=[it]) I (λb hb=>by rw[uT hb];exact fp) λb o hb e=>hs.extBut b o (λq=>hb (by simp[q])) e;obtain⟨ps,r2,p2,z2⟩:=I1.tuple (b8 sm hT);obtain⟨uk,uv,rfl,rk,rv⟩:=r2.two;have X0:Shared.TypeIs { s with heap:=h' } (.ref T) "tuple":=by obtain⟨o,e,c,_⟩:=p2;exact⟨o,e,c⟩
     dsimp only;refine wX (wpAny_holding (wX (wpAny_tryCatch ?_)));unfold Builtin.Dict.pairItems;refine wX (wpAny_typeOf X0 ?_);obtain⟨oT,eT,cT,nT,dT⟩:=p2;rw[if_pos (by decide)];refine wX (wpAny_seqItems eT dT (wY ?_));show wpAny _ _ (holding [uk,uv] (dictSet d uk uv)) _ _ _;obtain⟨zz,UC,X1,UK,dd⟩:=qE I1.hok (a:=d) aB;have X2:X1.length<=sizeLine:=by rw[←UK.length];exact zz
     have nk:((cb (jE.take i)).1.zip vs).length<sizeLine:=by
      have a1:=(Eb (jE.take i)).2;have a2:=z1;rw[length_take]at a1;rw[length_zip];omega
     refine wpAny_holding (wpAny_dictSet_pairs (hsz:=X2) (yo rk) dd λh2 QU Of=>?_);have PM:(mG ((cb (jE.take i)).1.zip vs) O xv).length<=sizeLine:=by have:=kq ((cb (jE.take i)).1.zip vs) O xv;omega
     obtain⟨UL,NY⟩:∃q,h2.get? d=some q:=let ⟨q,_,_,hq,_⟩:=QU;⟨q,hq⟩;have I2:=wN (t':=s.toks+1) I1 (a:=d) (ob:=.dK (mG ((cb (jE.take i)).1.zip vs) O xv) UL) (by rw[aB];exact True.intro) Of ⟨_,NY⟩ (Fe PM UC (UK.put O rv) QU NY);rw[mB,qq hz]at I2;have et:jE.take (i+1)=jE.take i++[(O,vd)]:=by rw[take_add_one,el];rfl
     have UM:(cb (jE.take (i+1))).1=hZ (cb (jE.take i)).1 O:=by rw[et,rA];rfl
     have X3:(cb (jE.take (i+1))).2=eY (cb (jE.take i)).1 (cb (jE.take i)).2 O vd:=by rw[et,rA];rfl
     refine wY ⟨plainId_quiet lA _,?_⟩;refine ih (i+1) 0 _ G N (eY (cb (jE.take i)).1 vs O xv) UL (by omega) U (by rw[UM];exact I2) hc M ?_ ?_ ?_ ?_
     ·obtain⟨f0,f1⟩:=fp;refine⟨?_,f1⟩;rw[aG nd.symm]at f0 ⊢;exact f0
     ·exact N6.at λo e=>(Of.2 it nd.symm).trans e
     ·rw[UM];exact ng hz _ _
     ·rw[X3];exact hv.put (iv.mono M.bn)
end
@[simp] def jO:LD->OB
 |[.lst ds]=>(jj ds).map λG=>(.dk (cb G).1 (cb G).2,false)
 |_=>none
def ME:bootBuiltins "dict" = some (.type "dict"):=by decide +kernel
section
variable {X:Cx}
def MF (T:X.calm=true):c8 X (.type "dict") (EA X.K jO):=by
 intro ah s σ H xs us Q I r h;obtain⟨B,Yk,d0,bb,sB,i0,O,q⟩:=h;cases i0 with
 |nil=>simp[jO]at O
 |cons i1 i2=>
  cases i2 with
  |cons _ _=>cases i1<;>simp[jO]at O
  |nil=>
   cases i1<;>try (simp[jO]at O;done)
   rename_i l ws ds hl il;simp only[jO]at O;obtain⟨U,hp,O⟩:=oY O;cases O
   obtain⟨u,rfl,rx⟩:=jX r;cases rx
   have hA:X.A.handled=none:=I.ok.hd T;refine callType_codes (Q₁:=λobj M=>obj=.ref s.heap.objs.size/\M={ s with heap:=s.heap.push { cls:=.type "dict",data:=.dict #[] } }) PySem.F.kt_called_dict (PySem.F.kt_typeCall_dict_1 _) PySem.F.entry_dict_init (kt_code_dict_new _ ⟨rfl,rfl⟩) ?_;rintro obj M ⟨rfl,rfl⟩;have I1:Inv X ah σ (upd H s.heap.objs.size (.dK [] { cls:=.type "dict",data:=.dict #[] })) { s with heap:=s.heap.push { cls:=.type "dict",data:=.dict #[] } }:=I.laid (t':=s.toks) (λb o e=>vZ _ e) (vT _) (yp s.heap I.big);have UN:H s.heap.objs.size=none:=I.fresh;have hT:Shared.TypeIs { s with heap:=s.heap.push { cls:=.type "dict",data:=.dict #[] } } (.ref s.heap.objs.size) "dict":=⟨_,vY _ rfl,rfl⟩;refine⟨hT,PySem.F.args_dict_init_2 _ _,?_⟩;unfold Builtin.«dict.__init__»;refine wX ?_;unfold Builtin.Dict.selfAndRest;refine wX (wpAny_notOrdered_dict hT ?_);show wpAny _ _ (pure (s.heap.objs.size,[Value.ref l])) _ _ _;refine wY ?_;show wpAny _ _ (Builtin.Dict.updateFrom "dict.__init__" s.heap.objs.size (.ref l) [] .none) _ _ _;unfold Builtin.Dict.updateFrom;have sm:aZ B (upd H s.heap.objs.size (.dK [] { cls:=.type "dict",data:=.dict #[] })):=sB.trans (kL UN);obtain⟨its,r1,p1,z1⟩:=I1.list (sm.seq hl);have pl:=p1.isList;obtain⟨ol,nl,G,cl,UO,dl⟩:=p1;have X4:Shared.TypeIs { s with heap:=s.heap.push { cls:=.type "dict",data:=.dict #[] } } (.ref l) "list":=⟨ol,G,cl⟩;refine wX (wpAny_typeOf X4 ?_);rw[if_pos (by decide)];obtain⟨oc,od,oo,os⟩:=ol;simp only at cl UO dl;subst cl UO dl;refine wX (Ea G (by exact hA) λh' tk hk=>?_);dsimp only[Option.isNone_none];rw[if_pos rfl];have I2:Inv X ah σ (upd H s.heap.objs.size (.dK [] { cls:=.type "dict",data:=.dict #[] })) { s with heap:=h',toks:=tk }:=I1.kept (t':=tk) hk;refine wX (wpAny_rule ?_);refine wX (wpAny_pyIter_list (items:=its.toArray) ⟨_,hk _ _ G,rfl,nl,rfl⟩ ?_);have I3:Inv X ah σ (upd H s.heap.objs.size (.dK [] { cls:=.type "dict",data:=.dict #[] })) { s with heap:=h'.push { cls:=.type "list_iterator",data:=.fields #[.ref l,.int 0 0] },toks:=tk }:=I2.kept (t':=tk) λb o e=>vZ _ e;have ld:s.heap.objs.size<h'.objs.size:=vX (hk _ _ (vY _ rfl));have ll:l<h'.objs.size:=vX (hk _ _ G);refine wY ⟨plainId_quiet lA _,Bi (A:=X.A.in1) (B:=B) (H0:=H) (l:=l) (d:=s.heap.objs.size) (it:=h'.objs.size) hA (vS ll) (vS ld) hl il hp (λHc N vs ob s' I' Nq xt hz hv=>?_) _ 0 0 _ H B [] _ rfl (uN _) I3 UN (Ext.refl sB) (I2.fpOk (vT _) (I2.hok.fresh (vT _))) ⟨_,vY _ rfl,rfl,rfl⟩ rfl .nil⟩;refine⟨rfl,.ref s.heap.objs.size,_,I',rfl,?_⟩;have x3:=xt.trans (Ext.laid (o:=.dK ((cb U).1.zip vs) ob) xt.nh Nq);exact q _ _ _ x3 (.dk aB hz (hv.mono (Ext.laid (o:=.dK ((cb U).1.zip vs) ob) xt.nh Nq).bn)) (by simp)
end
@[simp] noncomputable def Gz:FE:=λ_=>none
def NS (h:n+40<cLine):n+1<cLine:=by omega
section
variable {X:Cx}{e tg:Expr}
def Cy:JE X e Gz:=λah s σ H Q I h=>by obtain⟨B,ρ,d,b,_,_,e,_⟩:=h;cases e
end
noncomputable def zj (sx:Nat)(G:FT):LD->Env->Option Env
 |[],ρ=>some ρ
 |d::ds,ρ=>match G (ρ.set sx (some (d,false))) with
  |some false=>zj sx G ds (ρ.set sx (some (d,false)))
  |_=>none
def zk (i sx:Nat)(G:FT):FS:=λρ=>match ρ[i]? with
 |some (some (.lst ds,true))=>if sx≠i/\sx<ρ.length then (zj sx G ds ρ).map .nx else none
 |_=>none
def G0 {K:Frag}{i sx:Nat}{fc:FT}{tb:TS}{E:Ends}{σ:St}{H:Hp}(q:mK K (zk i sx fc) E σ H):
  Ip (KH K (om i)) (jv sx) (LJ (AE K fc) tb EH) E σ H:=by
 obtain⟨B0,H0,ρ,r,⟨N,s⟩,e,p⟩:=q;unfold zk at e;split at e
 ·rename_i ds hi;split at e
  ·rename_i Dp;obtain⟨n1,M⟩:=Dp;obtain⟨ρe,e',rfl⟩:=oY e;replace e:=e';clear e';obtain⟨a,vs,Sx,e1,G,hN,h0,il⟩:=s.owL i _ hi;cases e1
   refine⟨.ref a,G,a,rfl,⟨vs,gT.of (s.ext.nh _ _ hN)⟩,?_⟩;refine⟨λj m σ H=>∃(N:Hp)(ρ:Env),dU K B0 H0 N H σ ρ/\σ[i]? = some (some (V.ref a))/\ρ[i]? = some (some (.lst ds,true))/\sx<ρ.length/\m=ds.length - j/\j<=ds.length/\zj sx fc (ds.drop j) ρ=some ρe,⟨ds.length,N,ρ,s,G,hi,M,rfl,uN _,e⟩,?_⟩;clear e hN il s G hi M h0;rintro j m σ H ⟨N,ρ,s,G,hi,M,rfl,hj,e⟩;obtain⟨a',vs,Sx,e1,O,hN,h0,il⟩:=s.owL i _ hi;cases e1
   rw[G]at O;cases O
   have hq:gT K H a vs:=gT.of (s.ext.nh _ _ hN);by_cases T:j<ds.length
   ·rw[List.drop_eq_getElem_cons T]at e;obtain⟨x0,UQ,X5⟩:=il.get (i:=j) (d:=ds[j]) (by simp[T]);refine .inr ⟨⟨vs,x0,hq,UQ⟩,λU H'=>∃(N:Hp)(ρ:Env),dU K B0 H0 N H' U ρ/\U[i]? = some (some (V.ref a))/\ρ[i]? = some (some (.lst ds,true))/\sx<ρ.length/\zj sx fc (ds.drop (j+1)) ρ=some ρe,λU H' ⟨N',ρ',k1,k2,k3,k4,k5⟩=>⟨_,by omega,N',ρ',k1,k2,k3,k4,rfl,T,k5⟩,λx H' y=>?_⟩;obtain⟨rfl,y⟩:=y;have:=y vs hq;rw[UQ]at this;cases this
    have s1:=s.bind (i:=sx) X5;have Tf:(σ.set sx (some x0))[i]? = some (some (V.ref a)):=by rw[vB n1];exact G
    have X6:(ρ.set sx (some (ds[j],false)))[i]? = some (some (.lst ds,true)):=by rw[vB n1];exact hi
    have K9:sx<(ρ.set sx (some (ds[j],false))).length:=by rw[length_set];exact M
    unfold zj at e;cases hf:fc (ρ.set sx (some (ds[j],false))) with
    |none=>rw[hf]at e;cases e
    |some c=>
     rw[hf]at e;cases c with
     |true=>cases e
     |false=>
      refine⟨N,_,false,s1.ext.nh,s1.rep,hf,λH1 h1=>?_⟩;have s2:=s1.grow (Ext.grow s1.ext.nh h1);show(if false=true then _ else _);rw[if_neg (by decide)];exact⟨N,_,s2,Tf,X6,K9,e⟩
   ·have ej:j=ds.length:=by omega
    subst ej;rw[drop_eq_nil_of_le (vT _)]at e;cases e
    exact .inl ⟨⟨vs,hq,by rw[il.length];exact vT _⟩,p σ H ⟨N,s⟩⟩
  ·cases e
 ·cases e
section
variable {X:Cx}{c:Expr}{pos:Pos}
def Jz (hp:PassesOwn (model X.prog X.w) X.A X.env X.xe)(hc:X.calm=true)(hN:X.N.Nodup)(ht:JT X c fc)(hb:tY X body gb)
  (hl:X.N[i]? = some l:=by rfl) (G:L1 X.env.scope l:=by first|exact Or.inl rfl|exact Or.inr (Or.inl rfl)|exact Or.inr (Or.inr rfl)) (M:(l == ("__debug__" : Str))=false:=by decide) (O:(l == ("__classdict__" : Str))=false:=by decide)
  (hx:X.N[sx]? = some x:=by rfl) (T:EG X.env.scope x:=by first|exact Or.inl rfl|exact Or.inr rfl)
  (U:X.fn x=true∨X.env.scope.names.lookup x=some .local:=by first|exact .inl rfl|exact .inr rfl)
  (hs:∀v,foldedSetIterable (.Name l p2) X.env v=pure v:=by intro _;rfl):JS X (.For (.Name x p1) (.Name l p2) [.If c body [] pos3] [] pos) (zk i sx fc) :=
 PS.to (A2 hp hc (BE (q9 hl G M O)) (wD hN hx T U) (BC (KE ht hb BB)) hs) λ_ _ _ q=>G0 q
end
def jP:LD->Option LK
 |[]=>some []
 |d::ds=>(lO d).bind λk=>(jP ds).map (k :: ·)
theorem Bj {K:Frag}{B:Hp}:∀ {vs:LV}{ds:LD}{ks:LK},IsL K B vs ds->jP ds=some ks->vs=ks.map kV
 |_,_,ks,.nil,e=>by simp[jP]at e;subst e;rfl
 |_,_,ks,.cons i is,e=>by
  simp only[jP]at e;obtain⟨k,h1,e⟩:=oX e;obtain⟨r,h2,rfl⟩:=oY e;rw[vp i h1,Bj is h2];rfl
@[simp] def G1 (M:FE)(fa:FA):FE:=λρ=>(M ρ).bind λx=>(fa ρ).bind λds=>match x.1 with
 |.dt G vs=>if ds.length<=sizeLine then (jP ds).map λk=>((fU G vs k).getD .non,false)else none
 |_=>none
section
variable {X:Cx}{o:Expr}{es:QD}{pos:Pos}
def G2 {dM cF M:Pos}{O:Nat}{fo:FE}{fa:FA}(hu:X.A.units+1<cLine)(ho:JE X o fo)(ha:JA X es fa)(m:M1 X o "get" dM (.Tuple es O M) cF):JE X (.Call (.Attribute o "get" dM) [.Tuple es O M] [] cF) (G1 fo fa):=by
 refine PE.to (yq hu ho (A6 ha) m) λσ H Q q=>?_;obtain⟨B,ρ,d,bb,sB,r,G,q⟩:=q;obtain⟨x,ex,G⟩:=oX G;obtain⟨ds,ey,G⟩:=oX G;refine⟨B,ρ,x.1,x.2,sB,r,ex,λv H1 N1 O i1 ff=>?_⟩;obtain⟨xd,xb⟩:=x;cases i1 with
 |@dt a ks vs Nt h hl hs=>
  simp only at G;split at G
  ·rename_i hz;obtain⟨k,hk,G⟩:=oY G;cases G
   refine⟨a,rfl,.inr ⟨_,.inl (O.nh _ _ h)⟩,N1,ρ,ds,O.nh,r.mono O.bn,ey,λus H2 N2 U i2=>?_⟩;have hv:=Bj i2 hk;have X7:us.length<=sizeLine:=by rw[i2.length];exact hz
   refine⟨X7,λp hp=>?_⟩;have T:=Ext.laid (o:=.tup us) U.nh hp;have X8:N2 a=some (.dT (ks.zip vs)):=U.bn _ _ h;refine⟨ko (ks.zip vs) k,.inr ⟨_,k,p,.inl (T.nh _ _ (T.bn _ _ X8)),rfl,by rw[aB,hv],rfl⟩,?_⟩;have Of:=(hs.mono U.bn).mono T.bn;rcases xF k hl Of with⟨v,d',e1,e2,i3⟩|⟨e1,e2⟩
   ·rw[e1];rw[e2]at q;exact(q.into ((O.trans U).trans T)).one T.nh i3
   ·rw[e1];rw[e2]at q;exact(q.into ((O.trans U).trans T)).one T.nh .non
  ·cases G
 |_=>simp at G
end
section
variable {K:Frag}{E:Ends}{σ:St}{H:Hp}
def Cz (i:Nat)(M:FA)(O:FE):FS:=λρ=>match ρ[i]? with
 |some (some (.dt ks vs,true))=>(O ρ).bind λv=>(M ρ).bind λkd=>(jP kd).bind λG=>if bC v.1=true/\ks.length<sizeLine/\kd.length<=sizeLine then some (.nx (ρ.set i (some (.dt (hZ ks G) (eY ks vs G v.1),true))))else none
 |_=>none
def G3 {i:Nat}{M:FA}{O:FE}(q:mK K (Cz i M O) E σ H):BM (om i) (O8 (NN K M)) (tD K O) E σ H:=by
 obtain⟨B0,H0,ρ,r,⟨N,s⟩,e,p⟩:=q;unfold Cz at e;split at e
 ·rename_i ks ds ei;obtain⟨v,ev,e⟩:=oX e;obtain⟨kd,ek,e⟩:=oX e;obtain⟨kk,hk,e⟩:=oX e;split at e
  ·rename_i hx;cases e
   refine⟨N,ρ,v.1,v.2,s.ext.nh,s.rep,ev,λv1 H1 N1 x1 i1 _=>?_⟩;have s1:=s.grow x1;obtain⟨a,o,h1,h2,h3,h4⟩:=s1.ow i _ ei;refine⟨.ref a,h1,N1,ρ,kd,s1.ext.nh,s1.rep,ek,λus H2 N2 T i2=>?_⟩;have s2:=s1.grow T;have hv:=Bj i2 hk;refine⟨by rw[i2.length];exact hx.2.2,λpp hp=>?_⟩;have U:=Ext.laid (o:=.tup us) s2.ext.nh hp;have G:=s2.grow U;obtain⟨a',o',k1,k2,k3,k4⟩:=G.ow i _ ei;rw[h1]at k1;cases k1
   cases k4 with
   |@dt ks vs ds hl h5=>
    refine⟨a,rfl,.inr ⟨_,kk,pp,G.ext.nh _ _ k2,rfl,by rw[aB,hv],?_,?_⟩⟩
    ·rw[length_zip];omega
    ·rw[qq hl];exact p σ _ ⟨_,G.writeB ei h1 (.dt (ng hl _ _) (h5.put (G.flat ((i1.mono T.bn).mono U.bn) hx.1)))⟩
  ·cases e
 ·cases e
end
section
variable {X:Cx}{pos:Pos}{e:Expr}{es:QD}
def J0 (hu:X.A.units+1<cLine)(hv:JE X e fv)(hk:JA X es fk)(O:X.N[i]? = some y:=by rfl)(G:L1 X.env.scope y:=by first|exact Or.inl rfl|exact Or.inr (Or.inl rfl)|exact Or.inr (Or.inr rfl))(hd:(y == ("__debug__" : Str))=false:=by decide)
  (M:(y == ("__classdict__" : Str))=false:=by decide) (hs:swapsWith e (some (.Subscript (.Name y py) (.Tuple es x1 Nr) pt)) pos.line X.env=pure false:=by rfl):JS X (.Assign [.Subscript (.Name y py) (.Tuple es x1 Nr) pt] e pos) (Cz i fk fv) :=
 PS.to (wO hu (q9 O G hd M) (A6 hk) hv hs) λ_ _ _ q=>G3 q
end
end DL
namespace L2
open PySem PySem.Spec PyProof.Rows
noncomputable def R9 (a:Addr)(aM:List (eK×V))(ob:Obj):It:=⟨λi H=>H a=some (.dK aM ob)/\i<aM.length,λi H x H'=>H'=H/\∃k,aM[i]? = some (k,x),λi H=>H a=some (.dK aM ob)/\aM.length<=i⟩
def KV.get {aM:List (eK×V)}{vs:List (eK×Value)}(r:KV aM vs){i:Nat}{k:eK}{x:V}(h:aM[i]? = some (k,x)):∃u,vs[i]? = some (k,u)/\be x u:=by
 unfold KV at r;induction r generalizing i with
 |nil=>simp at h
 |@cons p q ps T hq t G=>
  cases i with
  |zero=>
   cases (show p=(k,x)from vK h)
   obtain⟨M,O⟩:=q;exact⟨O,by rw[show k=M from hq.1];rfl,hq.2⟩
  |succ i=>exact G h
def Pj (h:(cu P w).is k u=true):be (kV k) u:=by
 cases k with
 |inl i=>exact Value.isInt_shape h
 |inr z=>exact Value.isStrOf_shape h
section
variable {P:Program}{w:World}{H:Hp}{h:Heap}{a:Addr}
def rF (ok:lJ P w H h)(e:H a=some (.dK aM ob))(hd:ob.data=.dict es ep):∃vs,KV aM vs/\h.DictAt (cu P w) a vs ep:=by
 obtain⟨_,_,vs,r,o,G,M,h1,h2,h3,h4⟩:=qE ok e;rw[AD ok e]at h1;cases h1
 rw[hd]at h3;cases h3
 exact⟨vs,r,ob,es,AD ok e,h2,hd,h4⟩
def xH (ok:lJ P w H h)(e:H a=some (.dK aM ob)):∃es O,ob.data=.dict es O:=by
 obtain⟨_,_,vs,r,o,G,M,h1,h2,h3,h4⟩:=qE ok e;rw[AD ok e]at h1;cases h1
 exact⟨G,M,h3⟩
end
def Ec {P:Program}{w:World}{K:Frag}{tg:Expr}(a it:Addr)(aM:List (eK×V))(ob:Obj){es:Array DictEntry}{ep:Nat}(hd:ob.data=.dict es ep):Turn P w K tg (R9 a aM ob) [it] it (λi h=>h.IsValIter it a i aM.length ep) where
 mem:=by simp
 obj:=λi h st b hb=>by
  have e:b=it:=by simpa using hb
  subst e;obtain⟨o,e,c,d⟩:=st;exact⟨o,e,λv z=>by rw[d]at z;cases z⟩
 keep:=λi h h' st k=>st.at λo e=>k it (by simp) o e
 item:=by
  intro X O hw T hc i ah s σ H E I hf st U;subst O hw T;obtain⟨hH,M⟩:=U;obtain⟨vs,r,m⟩:=rF I.hok hH hd;obtain⟨f0,f1,f2,f3,f4,f5⟩:=hf it (by simp);have hl:vs.length=aM.length:=(Paired.length r).symm;obtain⟨u,hu,ru⟩:=r.get (k:=aM[i].1) (x:=aM[i].2) (vU M);refine wpAny_pyNext_values_item (by rw[hl];exact st) m hu λh' G sb=>?_;rw[hl]at G;have I1:Inv X ah σ H { s with heap:=h' }:=I.turned (t':=s.toks) (λb o hb e=>(sb.2 b hb).trans e) f0 f1 f3 f4 f5;obtain⟨o,e,c,d⟩:=id G;exact⟨u,rfl,qA (s:={ s with heap:=h' }) e c d (by decide) ⟨aM[i].2,H,I1,ru,⟨rfl,aM[i].1,vU M⟩,G,λb hb=>(hf b hb).1⟩⟩
 done:=by
  intro X O hw T hc i ah s σ H E I hf st U;subst O hw T;obtain⟨hH,K7⟩:=U;obtain⟨vs,r,m⟩:=rF I.hok hH hd;obtain⟨f0,f1,f2,f3,f4,f5⟩:=hf it (by simp);have hl:vs.length=aM.length:=(Paired.length r).symm;exact wpAny_pyNext_values_end (I.ok.hd hc) (by rw[hl];exact st) m (getElem?_eq_none (by omega)) λh' eb=>⟨rfl,I.turned (t':=s.toks) (λb o hb e=>eb b o hb e) f0 f1 f3 f4 f5⟩
 self:=λ_ _ _ _ _ st h=>wpAny_pyIter_valiter st h
section
variable {X:Cx}{tg:Expr}
def Pk (M:TE):TI:=λσ H R=>M σ H λx G=>∃a aM ob,x=.ref a/\G a=some (.dK aM ob)/\R (R9 a aM ob) G
def J5 {o:Expr}{td:TE}{dM cF:Pos}(ho:PE X o td)(G:attributeBase o "values" X.env (eval o X.env)=eval o X.env:=by rfl)(M:(dM.endLine == cF.line)=true:=by rfl):PI X tg (.Call (.Attribute o "values" dM) [] [] cF) (Pk td):=by
 intro ah s σ H R I h;refine wpAny_Call_method0_late G M (c7 (ho ah s σ H _ I h) λv s1 ⟨x,H1,O,r1,a,aM,ob,ex,U,q⟩=>?_);subst ex;obtain⟨h1,h2⟩:=AB O r1 (T:="dict") (.inr (.inr (.inl ⟨rfl,.inl ⟨aM,ob,U⟩⟩)));cases r1
 obtain⟨es,ep,hd⟩:=xH O.hok U;obtain⟨vs,r,m⟩:=rF O.hok U hd;have hl:vs.length=aM.length:=(Paired.length r).symm;refine⟨"dict","dict.values",plainAttrs_dict,PySem.F.slot_dict_values,PySem.F.type_dict_values,h1,h2,Calls.callWith_builtin rfl (PySem.evalArgs_none ?_)⟩;refine call_meetsIn PySem.F.slot_dict_values h1 PySem.F.entry_dict_values (PySem.F.args_dict_values_1 _) (meets_dict_values (cu X.prog X.w) a (qE O.hok U).2.1) ⟨⟨vs,m.dictOf⟩,?_⟩;have I2:Inv X ah σ H1 { s1 with heap:=s1.heap.push { cls:=.type "dict_values",data:=.fields #[.ref a] } }:=O.kept (t':=s1.toks) λb o e=>vZ _ e;refine wpAny_pyIter_values (v:=s1.heap.objs.size) ⟨_,vY _ rfl,rfl,rfl⟩ (m.keep λb o e=>vZ _ e) ?_;rw[hl];refine⟨(s1.heap.push { cls:=.type "dict_values",data:=.fields #[.ref a] }).objs.size,[(s1.heap.push { cls:=.type "dict_values",data:=.fields #[.ref a] }).objs.size],_,_,H1,rfl,I2.kept (t':=s1.toks) λb o e=>vZ _ e,Ec a _ aM ob hd,⟨_,vY _ rfl,rfl,rfl⟩,λb hb=>?_,q⟩;have e:b=(s1.heap.push { cls:=.type "dict_values",data:=.fields #[.ref a] }).objs.size:=by simpa using hb
 subst e;exact I2.fpOk (vT _) (I2.hok.fresh (vT _))
end
end L2
namespace DL
open PySem PySem.Spec PySem.W PyProof.Rows L2
noncomputable def kD:eK->D
 |.inl i=>.int i
 |.inr z=>.str z
def Pl {K:Frag}{B:Hp}(k:eK):Is K B (kV k) (kD k):=by
 cases k with
 |inl i=>exact .int i
 |inr z=>exact .str z
section
variable {K:Frag}{B:Hp}
def J6 {a:Addr}{ks:LK}{vs:LV}{ds:LD}{ob:Obj}(h:B a=some (.dK (ks.zip vs) ob))(hl:ks.length=vs.length)(hs:IsL K B vs ds):mM K (R9 a (ks.zip vs) ob) B ds:=by
 intro i H s;have hz:(ks.zip vs).length=vs.length:=by rw[length_zip];omega
 refine⟨λd ed=>?_,λG=>⟨s _ _ h,by rw[hz,hs.length];exact G⟩⟩;obtain⟨v,O,iv⟩:=hs.get ed;have M:i<vs.length:=(vV O).1;refine⟨⟨s _ _ h,by rw[hz];exact M⟩,λy T hy=>?_⟩;obtain⟨rfl,k,e⟩:=hy;have:=(getElem?_zip_eq_some.mp e).2;rw[O]at this;cases this
 exact⟨B,.refl s,iv⟩
end
section
variable {X:Cx}{e:Expr}{tg:Expr}
@[simp] noncomputable def rG (f:FE):FA:=λρ=>(f ρ).bind λx=>match x.1 with|.dk _ ds=>some ds|_=>none
def C0 (h:JE X e f)(G:attributeBase e "values" X.env (eval e X.env)=eval e X.env:=by rfl)(M:(dM.endLine == cF.line)=true:=by rfl):JI X tg (.Call (.Attribute e "values" dM) [] [] cF) (rG f):=by
 intro ah s σ H R I q;obtain⟨B,ρ,ds,T,r,U,q⟩:=q;obtain⟨⟨xd,xb⟩,ex,es⟩:=oX U;cases xd<;>try (cases es;done)
 cases es
 refine J5 h G M ah s σ H R I ⟨B,ρ,_,_,T,r,ex,λv H1 N1 O i1 _=>?_⟩;cases i1 with
 |@dk a ks vs ds ob hd hl hs=>exact⟨a,_,ob,rfl,O.nh _ _ hd,q _ H1 N1 O (J6 hd hl hs)⟩
end
end DL
namespace DL
open PySem PySem.Spec PyProof.Rows L2
@[simp] abbrev cj (i:Nat)(j:Int):FE:=f2 bK (am i) (fC (.int j))
def aU (F:Fn X.prog X.w X.K X.mg X.base k x f)(O:eJ j X.A)(ha:JA X (e::es) fa)(hj:k<=j:=by decide)(T:Gl X x:=by rfl)(G:(x == ("__debug__" : Str))=false:=by decide)(he:starEach (e::es) X.env=(false,eval e X.env)::starEach es X.env:=by rfl)(M:(backTo pos (starEach es X.env)).any (·.1)=false:=by rfl):JE X (.Call (.Name x p) (e::es) [] pos) (fA f fa):=BO F (O.mono hj) ha T G he M
def Pm (h1:∀y∈scope.names,y.2≠.cell:=by decide +kernel)(h2:scope.kind=.function:=by rfl)(h3:∀y∈scope.names,y.2=.local->scope.names.lookup y.1=some .local:=by decide +kernel)(G:(scope.names.all λy=>!(y.2 == NameKind.free) || (X.env.cells.lookup y.1).isSome)=true:=by rfl):CompSc X scope (dX scope.names X.env.cells []):=Mr h1 h2 h3 G
def T8 (h1:N'[j]? = some x)(h2:X.N[i]? = some x)(t:oj X N' scope (dX scope.names X.env.cells []) (j+1) r)(h3:X.env.kindOf x=some .cell∨X.env.kindOf x=some .free:=by exact Or.inl rfl)(h4:(relabel scope X.env).names.lookup x=some .cell∨(relabel scope X.env).names.lookup x=some .free:=by exact Or.inl rfl)(hf:(x,NameKind.free)∈scope.names:=by decide +kernel)(hc:(X.env.cells.lookup x).isSome=true:=by rfl):oj X N' scope (dX scope.names X.env.cells []) j (i::r):=.cons h1 h2 h3 h4 (qk hf hc) t
end DL
namespace DL
open PySem PySem.Spec PySem.W PyProof.Rows L2
noncomputable def oC:At->D
 |.i n=>.int n
 |.s z=>.str z
section
variable {prog:Program}{w:World}{A:Around}{E:QV}{s:Shared}
def Pn (hx:Au x u)(hy:Au y v):SeqAt.EqAt A s u v (dc (oC x) (oC y)):=by
 cases x with
 |i a=>
  obtain⟨t,rfl⟩:=hx;cases y with
  |i c=>obtain⟨t',rfl⟩:=hy;simp only[oC,dc];exact SeqAt.EqAt.int_int _ _ _ _
  |s c=>obtain⟨t',rfl⟩:=hy;simp only[oC,dc];exact SeqAt.EqAt.int_str _ _ _ _
 |s a=>
  obtain⟨t,rfl⟩:=hx;cases y with
  |i c=>obtain⟨t',rfl⟩:=hy;simp only[oC,dc];exact SeqAt.EqAt.str_int _ _ _ _
  |s c=>obtain⟨t',rfl⟩:=hy;simp only[oC,dc];exact SeqAt.EqAt.str_str _ _ _ _
theorem C1:∀ {xs ys:List At}{vs:LU},Paired Au xs vs->Paired Au ys vs->xs=ys
 |_,_,_,.nil,.nil=>rfl
 |x::xs,y::ys,_,.cons p ps,.cons q G=>by
  rw[C1 ps G];congr 1;cases x with
  |i a=>
   obtain⟨t,rfl⟩:=p;cases y with
   |i c=>obtain⟨t',e⟩:=q;cases e;rfl
   |s c=>obtain⟨t',e⟩:=q;cases e
  |s a=>
   obtain⟨t,rfl⟩:=p;cases y with
   |i c=>obtain⟨t',e⟩:=q;cases e
   |s c=>obtain⟨t',e⟩:=q;cases e;rfl
def MG (x y:At):dc (oC x) (oC y)=true↔x=y:=by
 cases x<;>cases y<;>simp[oC]
theorem qr:∀xs ys:List At,fQ (xs.map oC) (ys.map oC)=true↔xs=ys
 |[],[]=>by simp[fQ]
 |[],_::_=>by simp[fQ]
 |_::_,[]=>by simp[fQ]
 |x::xs,y::ys=>by
  rw[uY,uY,fQ,vC,MG,qr xs ys];simp
def MH (hx:iC s.heap xs x)(hy:iC s.heap ys y)(hu:A.units<cLine):SeqAt.EqAt A s x y (fQ (xs.map oC) (ys.map oC)):=by
 obtain⟨a,o,its,n,rfl,ho,hc,hd,r⟩:=hx;obtain⟨b,o',G,m,rfl,M,U,O,r'⟩:=hy;by_cases T:a=b
 ·subst T;rw[ho]at M;cases M;rw[hd]at O;cases O;rw[C1 r r',(qr ys ys).mpr rfl];exact SeqAt.EqAt.same _
 ·have t1:s.heap.IsTuple a its:=⟨o,ho,hc,n,hd⟩;have t2:s.heap.IsTuple b G:=⟨o',M,U,m,O⟩;have l1:xs.length=its.size:=by rw[←vG];exact gf r
  have l2:ys.length=G.size:=by rw[←vG];exact gf r'
  have he:∀j (h1:j<its.size) (h2:j<G.size),SeqAt.EqAt A.in1 s its[j] G[j] (dc ((xs.map oC).getD j .non) ((ys.map oC).getD j .non)):=λj h1 h2=>by
   have p:=fx (.i 0) Value.none r (i:=j) (by omega);have q:=fx (.i 0) Value.none r' (i:=j) (by omega);have e1:its.toList.getD j Value.none=its[j]:=by rw[vF,getElem?_toList,getElem?_eq_getElem h1];rfl
   have e2:G.toList.getD j Value.none=G[j]:=by rw[vF,getElem?_toList,getElem?_eq_getElem h2];rfl
   rw[e1]at p;rw[e2]at q;have e3:(xs.map oC).getD j .non=oC (xs.getD j (.i 0)):=by simp[vF,show j<xs.length by omega]
   have e4:(ys.map oC).getD j .non=oC (ys.getD j (.i 0)):=by simp[vF,show j<ys.length by omega]
   rw[e3,e4];exact Pn p q
  have rc:=SeqAt.RcAt.tuples t1 t2 hu he;have Qc:((List.range (min its.size G.size)).all (λj=>dc ((xs.map oC).getD j .non) ((ys.map oC).getD j .non)) && its.size == G.size)=fQ (xs.map oC) (ys.map oC):=by
   rw[←l1,←l2];by_cases hl:xs.length=ys.length
   ·rw[←hl,Nat.min_self,beq_self_eq_true,Bool.and_true];have:=jH (λj=>dc ((xs.map oC).getD j .non) ((ys.map oC).getD j .non)) (xs:=xs.map oC) (ys:=ys.map oC) (by simpa using hl) λj x y e1 e2=>wZ j x y e1 e2;rwa [vI]at this
   ·rw[wW (by simpa using hl),beq_eq_false_iff_ne.mpr hl,Bool.and_false]
  rw[Qc]at rc;exact SeqAt.EqAt.of_refs T rc
def Ed (xs:List At):bv xs xs=some false:=by
 induction xs with
 |nil=>rfl
 |cons x xs G=>cases x<;>rw[bv,if_pos rfl,G]
def G4 (hx:iC s.heap xs x)(hy:iC s.heap ys y)(h:bv (.i n::xs) (.i m::ys)=some b)(hu:A.units<cLine)(q:Q b s)(hn:Au (.i n) u)(hm:Au (.i m) v):KatLex prog w A true false Q [(u,v),(x,y)] 0 s:=by
 obtain⟨t,rfl⟩:=hn;obtain⟨t',rfl⟩:=hm;refine kat_cons (wpAny_eqBool_int ?_);rw[bv]at h;by_cases e:n=m
 ·rw[if_pos e]at h;rw[show(n == m)=true by simp[e]];refine kat_yes (kat_cons (MH hx hy hu _ _ _ _ ?_));by_cases e2:xs=ys
  ·rw[(qr xs ys).mpr e2];rw[e2,Ed]at h;cases h
   exact kat_yes (kat_nil q)
  ·rw[Bool.eq_false_iff.mpr λz=>e2 ((qr xs ys).mp z)];refine kat_no (kat_one _ _ ?_);show wpAny _ _ (richCompare .Lt x y) _ _ _;exact Gf (Q:=W.BoolBack Q) hx hy h hu (by first|exact q|exact⟨b,rfl,q⟩)
 ·rw[if_neg e]at h;cases h
  rw[show(n == m)=false by simp[e]];exact kat_no (oneLt_int q)
end
def Ee (h:Heap)(xs:List At)(v:Value):Prop:=∃n k a o its m u x,xs=.i n::k/\v=.ref a/\h.get? a=some o/\o.cls=.type "tuple"/\o.data=.seq its m/\its.toList=[u,x]/\Au (.i n) u/\iC h k x
section
variable {prog:Program}{w:World}{A:Around}{E:QV}{s:Shared}
def J7 (hx:Ee s.heap xs x)(hy:Ee s.heap ys y)(h:bv xs ys=some b)(hu:A.units<cLine)(q:Q b s):wpAny (model prog w) A (keyLt' (tuples' true) x y) Q E s:=by
 obtain⟨n,k,a,o,its,m,u,x',rfl,rfl,U,_,hd,ei,an,tx⟩:=hx;obtain⟨n',k',a',o',its',m',u',y',rfl,rfl,M,_,O,G,T,ty⟩:=hy;refine kat_lt U hd M O ?_;rw[ei,G];have hf:decide (its.size<its'.size)=false:=by
  rw[←vG,←vG,ei,G];rfl
 rw[hf];exact G4 tx ty h hu q an T
theorem pw:∀ {ks:List (List At)}{vs:LU},Paired (Ee h) ks vs->∃fs,KatTups h vs fs/\fs.length=ks.length/\∀v∈fs,∃n,Au (.i n) v
 |_,_,.nil=>⟨[],trivial,rfl,by simp⟩
 |k::ks,_,.cons x t=>by
  obtain⟨fs,h1,h2,h3⟩:=pw t;obtain⟨n,k,a,o,its,m,u,M,rfl,rfl,G,hc,hd,ei,an,_⟩:=x;refine⟨u::fs,KatTups.cons G hc hd (by rw[←getElem?_toList,ei];rfl) h1,by simp[h2],λv hv=>?_⟩;rcases vP hv with rfl|hv
  ·exact⟨n,an⟩
  ·exact h3 v hv
def Ef (hp:Paired (Ee s.heap) ks vs)(hn:0<ks.length)(q:Q (tuples' true) s):wpAny (model prog w) A (keyKind' vs.toArray) Q E s:=by
 obtain⟨fs,h1,h2,h3⟩:=pw hp;refine kat_kind (T:=.type "int") h1 (by omega) (λv hv=>?_) (by decide) q;obtain⟨n,t,rfl⟩:=h3 v hv;exact .now
def G5 (hc:eO ks=true)(hu:A.units<cLine)(hp:Paired (Ee s.heap) ks vs):∀(i j:Nat)(C:Bool->Shared->Prop)(s1:Shared),i<ks.length->j<ks.length->s1=s->(∀s',s'=s->C (rf (Ic ks) i j) s')->kas_ask prog w A (tuples' true) vs i j C s1:=by
 intro i j C s1 hi hj e M;subst e;unfold kas_ask;have G:ks.getD i []∈ks:=by rw[vF,vU hi];exact getElem_mem hi
 have O:ks.getD j []∈ks:=by rw[vF,vU hj];exact getElem_mem hj
 refine J7 (fx [] Value.none hp hi) (fx [] Value.none hp hj) (iq hc G O) hu ?_;have:=M s1 rfl;unfold rf Ic at this;rw[yY (uS ⟨_,G,rfl⟩)]at this;exact this
end
def MI:D->Option (List At)
 |.tup [.int n,.tup es]=>(jN es).map (.i n :: ·)
 |_=>none
def j6:LD->Option (List (List At))
 |[]=>some []
 |d::ds=>(MI d).bind λa=>(j6 ds).map (a :: ·)
theorem vv:∀ {ds:LD}{ks:List (List At)},j6 ds=some ks->ks.length=ds.length
 |[],_,h=>by simp only[j6]at h;cases h;rfl
 |d::ds,_,h=>by
  simp only[j6]at h;obtain⟨a,h1,h⟩:=oX h;obtain⟨r,h2,h⟩:=oY h;subst h;simp[vv h2]
theorem zm (I:Inv X ah σ H s):∀ {ys:LV}{ds:LD}{ks:List (List At)}{its:LU},b7 ys its->IsL X.K H ys ds->j6 ds=some ks->Paired (Ee s.heap) ks its
 |_,_,_,_,.nil,.nil,h=>by simp only[j6]at h;cases h;exact .nil
 |_,_,_,_,.cons r T,.cons i U,h=>by
  simp only[j6]at h;obtain⟨a,h1,h⟩:=oX h;obtain⟨t,h2,h⟩:=oY h;subst h;refine .cons ?_ (zm I T U h2);unfold MI at h1;split at h1
  ·rename_i n es;obtain⟨k,M,rfl⟩:=oY h1;cases i with
   |tup hq hl=>
    cases r
    obtain⟨its',G,⟨o,ho,hc,m,hd⟩,_⟩:=I.tuple hq;cases hl with
    |cons i1 hl=>
     cases hl with
     |cons i2 hl=>
      cases hl
      cases G with
      |cons r1 G=>
       cases G with
       |cons r2 G=>
        cases G
        cases i1
        have hk:dO [D.tup es]=some [k]:=by show(jN es).bind _=_;rw[M];rfl
        have O:=qm I (.cons r2 .nil) (.cons i2 .nil) hk;cases O with
        |cons O _=>exact⟨n,k,_,o,_,m,_,_,rfl,rfl,ho,hc,hd,rfl,r1,O⟩
  ·cases h1
def J8 (hu:A.units<cLine):KK X A j6 λ_=>true:=⟨vv,λI _ _ _ _ r i e _ hc=>have hp:=zm I r i e;⟨λhn _ _ q=>Ef hp hn q,G5 hc hu hp⟩⟩
def G6 (hu:X.A.units+40<cLine):KK X X.A.in1.in1 j6 λ_=>true:=J8 (show X.A.units+1+1<cLine by omega)
@[simp] abbrev Bk:FE->(Env->D->Option D)->FE:=xD j6 λ_=>true
end DL
namespace DL
open PySem PySem.Spec PyProof.Rows L2
def Po:Nat->(LU->Prop)->Prop
 |0,P=>P []
 |n+1,P=>∀a,Po n λl=>P (a::l)
theorem G7:∀n P,Po n P->∀us:LU,us.length=n->P us
 |0,_,h,[],_=>h
 |n+1,_,h,a::us,e=>G7 n _ (h a) us (Nat.succ.inj e)
section
variable {P:Program}{w:World}{K:Frag}{mg:SV}{base:Heap}
def KC (K:Frag)(mg:SV)(x:Str)(c:D):Prop:=∃u v,mg x=some u/\be v u/\∀B,Is K B v c
def KD (w:World)(K:Frag)(mg:SV)(x:Str)(c:List (Str×D)):Prop:=∃d,mg x=some (.ref d)/\mS K w.params d c
def kc_of {x:Str}{c:D}{h:Heap}(X:K.In h)(G:h.Ns mainGlobals mg)(k:∃u v,nsIn K mainGlobals x=some (some u)/\be v u/\∀B,Is K B v c):KC K mg x c:=let ⟨u,v,e,r⟩:=k;⟨u,v,mg_of X G e,r⟩
def kd_of {x:Str}{c:List (Str×D)}{h:Heap}(X:K.In h)(G:h.Ns mainGlobals mg)(k:∃d,nsIn K mainGlobals x=some (some (.ref d))/\mS K w.params d c):KD w K mg x c:=let ⟨d,e,r⟩:=k;⟨d,mg_of X G e,r⟩
def c6.fqL {x:Str}{st:Stmt}{k:Nat}{O:LD->OB}(F:c6 K x st)(B:∃h,K.In h/\h.Ns mainGlobals mg)(g:FS)(N:LS)(n:Nat)
  (hb:∀ {f:Addr}{cV:Value}{A:Around}{outer:List PySem.Env}{s:Shared}{H:Hp}{E:XK},N.Nodup->eJ k (A.deeper (envOfC x (aL st) s.heap.objs.size f cV))->(A.deeper (envOfC x (aL st) s.heap.objs.size f cV)).units+40<cLine->(∀c P,PySem.W.tabIn K x=some (c,P)->cV=.ref c)->tY (ot yc P w K mg base N x (aL st) f cV A outer s H E).nox (ca st) g)
  (S:FnScope N (N.take n) (aL st):=by refine⟨rfl,rfl,rfl,?_,rfl,?_,?_⟩<;>decide +kernel)
  (M:∀(kV doc pm:Value)(an:Option Addr)(cV ct:Value)(us:LU),us.length=(N.take n).length->bindArgs (fnOf x x (dN st) (ca st) (aL st) .none kV doc pm an cV ct) ⟨us,[]⟩=pure ((N.take n).zip us):=by
   exact λ_ _ _ _ _ _=>G7 _ _ (by(repeat intro);rfl))
  (e:aD g (N.take n).length (N.length - (N.take n).length)=O:=by rfl):
  Fn P w K mg base (k+1) x O:=let ⟨_,X,G⟩:=B;e ▸ F.fnL X G S M λ_ _ _ _ _ _ _ hc T=>hb S.nd T (AH T) hc
def c6.fq {x:Str}{st:Stmt}{k:Nat}{M:LD->OB}(F:c6 K x st)(B:∃h,K.In h/\h.Ns mainGlobals mg)(g:FS)(N:LS)(n:Nat)
  (hb:∀ {f:Addr}{cV:Value}{A:Around}{outer:List PySem.Env}{s:Shared}{H:Hp}{E:XK},N.Nodup->eJ k (A.deeper (envOfC x (aL st) s.heap.objs.size f cV))->(A.deeper (envOfC x (aL st) s.heap.objs.size f cV)).units+40<cLine->tY (ot yc P w K mg base N x (aL st) f cV A outer s H E).nox (ca st) g)
  (S:FnScope N (N.take n) (aL st):=by refine⟨rfl,rfl,rfl,?_,rfl,?_,?_⟩<;>decide +kernel)
  (G:∀(kV doc pm:Value)(an:Option Addr)(cV ct:Value)(us:LU),us.length=(N.take n).length->bindArgs (fnOf x x (dN st) (ca st) (aL st) .none kV doc pm an cV ct) ⟨us,[]⟩=pure ((N.take n).zip us):=by
   exact λ_ _ _ _ _ _=>G7 _ _ (by(repeat intro);rfl))
  (e:aD g (N.take n).length (N.length - (N.take n).length)=M:=by rfl):
  Fn P w K mg base (k+1) x M:=F.fqL B g N n (λn r u _=>hb n r u) S G e
end
section
variable {X:Cx}{x:Str}{pos:Pos}
def Av (i:Nat)(G:X.N.Nodup)(hi:X.N[i]? = some x:=by rfl)(hx:EG X.env.scope x:=by first|exact Or.inl rfl|exact Or.inr rfl)(hf:X.fn x=true∨X.env.scope.names.lookup x=some .local:=by first|exact .inl rfl|exact .inr rfl):PG X (.Name x pos) (jv i):=wD G hi hx hf
def NT {fp}(i:Nat)(G:N'.Nodup:=by decide +kernel)(hi:(jf X N' scope cl C s H fp).N[i]? = some x:=by rfl)(hx:EG (jf X N' scope cl C s H fp).env.scope x:=by exact Or.inl rfl)(hf:(jf X N' scope cl C s H fp).fn x=true∨(jf X N' scope cl C s H fp).env.scope.names.lookup x=some .local:=by first|exact .inl rfl|exact .inr rfl):PG (jf X N' scope cl C s H fp) (.Name x pos) (jv i):=wD G hi hx hf
def fE (N':LS)(hi:JI X tg gE fi)(hc:∀ {C s H fp},JC (jf X N' scope (dX scope.names X.env.cells []) C s H fp) B9 fc)(he:∀ {C s H fp},JE (jf X N' scope (dX scope.names X.env.cells []) C s H fp) ya fe)
  (M:KU X.K nT qy g:=by first|exact yu (by decide)|exact Le (by decide)) (O:∀ {C s H fp},PG (jf X N' scope (dX scope.names X.env.cells []) C s H fp) tg g:=by intros;first|exact NT 0|exact wF rfl (gK (NT 0) (gK (NT 1) qj)))
  (T:oj X N' scope (dX scope.names X.env.cells []) nT cap:=by repeat first|exact .nil rfl|refine T8 rfl rfl ?_)
  (S:CompSc X scope (dX scope.names X.env.cells []):=by exact Pm) (G:X.calm=true:=by rfl)
  (hs:∀x,foldedSetIterable gE X.env x=pure x:=by intro _;rfl):
  JE X (.ListComp ya [⟨tg,gE,B9,0⟩] scope pos) (bO fi nT cap qy fc fe):=IS G S T hi (λ_ _ _ _=>O) M (λ_ _ _ _=>hc) (λ_ _ _ _=>he) hs
def lP (N':LS)(U:X.N.Nodup)(hi:JI X tg gE fi)(hc:∀ {C s H fp},JC (jf X N' scope (dX scope.names X.env.cells []) C s H fp) B9 fc)(he:∀ {C s H fp},JE (jf X N' scope (dX scope.names X.env.cells []) C s H fp) ya fe)
  (M:KU X.K nT qy g:=by first|exact yu (by decide)|exact Le (by decide)) (hg:∀ {C s H fp},PG (jf X N' scope (dX scope.names X.env.cells []) C s H fp) tg g:=by intros;first|exact NT 0|exact wF rfl (gK (NT 0) (gK (NT 1) qj)))
  (cp:oj X N' scope (dX scope.names X.env.cells []) nT cap:=by repeat first|exact .nil rfl|refine T8 rfl rfl ?_)
  (O:X.N[i]? = some y:=by rfl) (hy:X.env.kindOf y=some .local:=by rfl)
  (T:swapsWith (.ListComp ya [⟨tg,gE,B9,0⟩] scope pos) (some (.Name y py)) spos.line X.env=pure true:=by rfl)
  (S:CompSc X scope (dX scope.names X.env.cells []):=by exact Pm) (G:X.calm=true:=by rfl)
  (hs:∀x,foldedSetIterable gE X.env x=pure x:=by intro _;rfl):
  JS X (.Assign [.Name y py] (.ListComp ya [⟨tg,gE,B9,0⟩] scope pos) spos) (ba i (bO fi nT cap qy fc fe)):=IT G U O hy T S cp hi (λ_ _ _ _=>hg) M (λ_ _ _ _=>hc) (λ_ _ _ _=>he) hs
def kM (hi:JI X tg gE fi)(G:PG X tg t)(M:IN X.K qy t)(hb:tY X body g)(hp:PassesOwn (model X.prog X.w) X.A X.env X.xe:=by exact PassesOwn.never)(hc:X.calm=true:=by rfl)
  (hs:∀x,foldedSetIterable gE X.env x=pure x:=by intro _;rfl):JS X (.For tg gE body [] pos) (kx fi qy g):=Mx hp hc hi G M hb hs
def G8 (hi:PI X tg gE (Q2 X.K fi))(G:PG X tg t)(M:IN X.K qy t)(hb:tY X body g)(hp:PassesOwn (model X.prog X.w) X.A X.env X.xe:=by exact PassesOwn.never)(hc:X.calm=true:=by rfl)
  (hs:∀x,foldedSetIterable gE X.env x=pure x:=by intro _;rfl):JS X (.For tg gE body [] pos) (ph fi qy g):=IZ hp hc hi G M hb hs
end
end DL
namespace DL
open PySem PySem.Spec PySem.W PyProof.Rows L2
def rH:entryFor table "dict_itemiterator.__iter__" = some Builtin.«dict_keyiterator.__iter__»:=entryFor_alias (id':="dict_keyiterator.__iter__") (by kernel_rfl) rfl (by decide +kernel) (by kernel_rfl)
def xI (he:IsItemIter s.heap it d i n ep ok ov)(h:Q (.ref it) s):wpAny (model prog w) A (pyIter (.ref it)) Q E s:=by
 have G:s.TypeIs (.ref it) "dict_itemiterator":=⟨_,he,rfl⟩;refine wpAny_pyIter_slot G PySem.F.slot_dict_itemiterator_iter (wpAny_call_entry PySem.F.slot_dict_itemiterator_iter G rH ?_ (PySem.F.args_dict_itemiterator_iter_1 _));show wpAny _ _ (ret (.ref it)) _ _ s;exact wY ⟨_,rfl,"dict_itemiterator",_,G,PySem.F.slot_dict_itemiterator_next.lookup,h⟩
noncomputable def RA (a:Addr)(aM:List (eK×V))(ob:Obj):It:=⟨λi H=>H a=some (.dK aM ob)/\i<aM.length,λi H y H'=>∃T k v,y=.ref T/\H T=none/\H'=upd H T (.tup [kV k,v])/\aM[i]? = some (k,v),λi H=>H a=some (.dK aM ob)/\aM.length<=i⟩
def Bl {P:Program}{w:World}{K:Frag}{es:QD}{kt:Nat}{pt:Pos}(a it:Addr)(aM:List (eK×V))(ob:Obj){ds:Array DictEntry}{ep:Nat}(hd:ob.data=.dict ds ep):Turn P w K (.Tuple es kt pt) (RA a aM ob) [it] it (λi h=>∃ok G,IsItemIter h it a i aM.length ep ok G) where
 mem:=by simp
 obj:=λi h st b hb=>by
  have e:b=it:=by simpa using hb
  subst e;obtain⟨ok,G,e⟩:=st;exact⟨_,e,λv z=>by cases z⟩
 keep:=λi h h' st k=>let ⟨ok,G,e⟩:=st;⟨ok,G,k it (by simp) _ e⟩
 item:=by
  intro X hP hw hK hc i ah s σ H E I hf st hg;subst hP hw hK;obtain⟨ok,G,he⟩:=st;obtain⟨hH,M⟩:=hg;obtain⟨vs,r,m⟩:=rF I.hok hH hd;have hl:vs.length=aM.length:=(Paired.length r).symm;obtain⟨u,hu,ru⟩:=r.get (k:=aM[i].1) (x:=aM[i].2) (vU M);have fresh:H s.heap.objs.size=none:=I.hok.fresh (vT _);have O:it≠s.heap.objs.size:=vS (vX he);refine wpAny_pyNext_items_item (by rw[hl];exact he) m hu λkey h' T ho hT hsz hk=>?_;rw[hl]at ho;refine⟨_,rfl,wpAny_letOwnedTupleGo_items (s:={ s with heap:=h' }) ho λh2 NY s2=>?_⟩;have U:Heap.SameBut it h' h2:=s2;have kk:∀b o,b∉[it]->s.heap.get? b=some o->h2.get? b=some o:=λb o hb q=>U.extBut _ _ (λz=>hb (by simp[z])) (hk b o (λz=>hb (by simp[z])) q);have new:bR X.prog X.w (upd H s.heap.objs.size (.tup [kV aM[i].1,aM[i].2])) h2 s.heap.objs.size (.tup [kV aM[i].1,aM[i].2]):=⟨by show 2<=sizeLine;decide,[key,u],.cons (Pj T) (.cons ru .nil),⟨_,U.extBut _ _ O.symm hT,rfl,_,rfl⟩⟩;refine⟨.ref s.heap.objs.size,upd H s.heap.objs.size (.tup [kV aM[i].1,aM[i].2]),Cb (s:=s) (t':=s.toks) I hf kk (vT _) new,rfl,⟨_,aM[i].1,aM[i].2,rfl,fresh,rfl,vU M⟩,⟨_,_,NY⟩,λb hb=>?_⟩;have Dp:b≠s.heap.objs.size:=by
   have e:b=it:=by simpa using hb
   rw[e];exact O
  rw[aG Dp];exact(hf b hb).1
 done:=by
  intro X hP hw hK hc i ah s σ H E I hf st hg;subst hP hw hK;obtain⟨ok,G,he⟩:=st;obtain⟨hH,K7⟩:=hg;obtain⟨vs,r,m⟩:=rF I.hok hH hd;have hl:vs.length=aM.length:=(Paired.length r).symm;exact wpAny_pyNext_items_end (I.ok.hd hc) (by rw[hl];exact he) m (getElem?_eq_none (by omega)) λh' hk=>⟨rfl,jM (t':=s.toks) I hf λb o hb q=>hk b o (λz=>hb (by simp[z])) q⟩
 self:=λ_ _ _ _ _ st h=>let ⟨_,_,he⟩:=st;xI he h
section
variable {X:Cx}{es:QD}{kt:Nat}{pt:Pos}{e:Expr}
def RB (M:TE):TI:=λσ H R=>M σ H λx G=>∃a aM ob,x=.ref a/\G a=some (.dK aM ob)/\R (RA a aM ob) G
def G9 {o:Expr}{td:TE}{dM cF:Pos}(ho:PE X o td)(G:attributeBase o "items" X.env (eval o X.env)=eval o X.env:=by rfl)(M:(dM.endLine == cF.line)=true:=by rfl):PI X (.Tuple es kt pt) (.Call (.Attribute o "items" dM) [] [] cF) (RB td):=by
 intro ah s σ H R I h;refine wpAny_Call_method0_late G M (c7 (ho ah s σ H _ I h) λv s1 ⟨x,H1,O,r1,a,aM,ob,ex,U,q⟩=>?_);subst ex;obtain⟨h1,h2⟩:=AB O r1 (T:="dict") (.inr (.inr (.inl ⟨rfl,.inl ⟨aM,ob,U⟩⟩)));cases r1
 obtain⟨es,ep,hd⟩:=xH O.hok U;obtain⟨vs,r,m⟩:=rF O.hok U hd;have hl:vs.length=aM.length:=(Paired.length r).symm;refine⟨"dict","dict.items",plainAttrs_dict,PySem.F.slot_dict_items,PySem.F.type_dict_items,h1,h2,Calls.callWith_builtin rfl (PySem.evalArgs_none ?_)⟩;refine call_meetsIn PySem.F.slot_dict_items h1 PySem.F.entry_dict_items (PySem.F.args_dict_items_1 _) (meets_dict_items (cu X.prog X.w) a (qE O.hok U).2.1) ⟨⟨vs,m.dictOf⟩,?_⟩;have I2:Inv X ah σ H1 { s1 with heap:=s1.heap.push { cls:=.type "dict_items",data:=.fields #[.ref a] } }:=O.kept (t':=s1.toks) λb o e=>vZ _ e;refine wpAny_pyIter_items (v:=s1.heap.objs.size) ⟨_,vY _ rfl,rfl,rfl⟩ (m.keep λb o e=>vZ _ e) ?_;rw[hl];refine⟨(s1.heap.push { cls:=.type "dict_items",data:=.fields #[.ref a] }).objs.size,[(s1.heap.push { cls:=.type "dict_items",data:=.fields #[.ref a] }).objs.size],_,_,H1,rfl,I2.kept (t':=s1.toks) λb o e=>vZ _ e,Bl a _ aM ob hd,⟨_,_,vY _ rfl⟩,λb hb=>?_,q⟩;have e:b=(s1.heap.push { cls:=.type "dict_items",data:=.fields #[.ref a] }).objs.size:=by simpa using hb
 subst e;exact I2.fpOk (vT _) (I2.hok.fresh (vT _))
noncomputable def mq (ks:LK)(ds:LD):LD:=(ks.zip ds).map λx=>.tup [kD x.1,x.2]
def GA {K:Frag}{B:Hp}{a:Addr}{ks:LK}{vs:LV}{ds:LD}{ob:Obj}(h:B a=some (.dK (ks.zip vs) ob))(hl:ks.length=vs.length)(hs:IsL K B vs ds):mM K (RA a (ks.zip vs) ob) B (mq ks ds):=by
 intro i H s;have hz:(ks.zip vs).length=vs.length:=by rw[length_zip];omega
 have hn:=hs.length;refine⟨λd ed=>?_,λG=>⟨s _ _ h,by unfold mq at G;rw[vI,length_zip]at G;omega⟩⟩;unfold mq at ed;rw[vA]at ed;obtain⟨⟨k0,d0⟩,ek,rfl⟩:=oY ed;obtain⟨e1,e2⟩:=getElem?_zip_eq_some.mp ek;obtain⟨v,O,iv⟩:=hs.get e2;have M:i<vs.length:=(vV O).1;refine⟨⟨s _ _ h,by rw[hz];exact M⟩,λy H3 hy=>?_⟩;obtain⟨T,k,v',rfl,hT,rfl,e⟩:=hy;obtain⟨g1,U⟩:=getElem?_zip_eq_some.mp e;rw[e1]at g1;cases g1;rw[O]at U;cases U;have xt:=Ext.laid (o:=.tup [kV k0,v']) s hT;exact⟨_,xt,.tup (js.of aB) (.cons (Pl _) (.cons (iv.mono xt.bn) .nil))⟩
@[simp] def C2 (f:FE):FA:=λρ=>(f ρ).bind λx=>match x.1 with|.dk ks ds=>some (mq ks ds)|_=>none
def GB (h:JE X e f)(G:attributeBase e "items" X.env (eval e X.env)=eval e X.env:=by rfl)(M:(dM.endLine == cF.line)=true:=by rfl):JI X (.Tuple es kt pt) (.Call (.Attribute e "items" dM) [] [] cF) (C2 f):=by
 intro ah s σ H R I q;obtain⟨B,ρ,ds,T,r,U,q⟩:=q;obtain⟨⟨xd,xb⟩,ex,es⟩:=oX U;cases xd<;>try (cases es;done)
 cases es
 refine G9 h G M ah s σ H R I ⟨B,ρ,_,_,T,r,ex,λv H1 N1 O i1 _=>?_⟩;cases i1 with
 |@dk a ks vs ds ob hd hl hs=>exact⟨a,_,ob,rfl,O.nh _ _ hd,q _ H1 N1 O (GA hd hl hs)⟩
end
section
variable {K:Frag}{E:Ends}{σ:St}{H:Hp}
def rJ (i:Nat)(M O:FE):FS:=λρ=>match ρ[i]? with
 |some (some (.dk ks vs,true))=>(O (gU ρ)).bind λv=>(M ρ).bind λk=>(lO k.1).bind λG=>if ks.length<sizeLine then some (.nx (ρ.set i (some (.dk (hZ ks G) (eY ks vs G v.1),true))))else none
 |_=>none
def Eg (q:mK K (rJ i fk fv) E σ H):BM (om i) (tD K fk) (tD K fv) E σ H:=by
 obtain⟨B0,H0,ρ,r,⟨N,s⟩,e,p⟩:=q;unfold rJ at e;split at e
 ·rename_i ks ds ei;obtain⟨v,M,e⟩:=oX e;obtain⟨k,ek,e⟩:=oX e;obtain⟨O,hk,e⟩:=oX e;split at e
  ·rename_i hx;cases e
   refine⟨dW N (own σ ρ),gU ρ,v.1,v.2,bW.trans s.ext.nh,s.repH,M,λv1 H1 N1 T i1 _=>?_⟩;obtain⟨s1,c⟩:=s.growH T;obtain⟨a,o,h1,h2,h3,h4⟩:=s1.ow i _ ei;refine⟨.ref a,h1,_,ρ,k.1,k.2,s1.ext.nh,s1.rep,ek,λv2 H2 N2 G i2 _=>?_⟩;have s2:=s1.grow G;have hv:=vp i2 hk;subst hv;obtain⟨a',o',k1,k2,k3,k4⟩:=s2.ow i _ ei;rw[h1]at k1;cases k1
   cases k4 with
   |@dk ks vs ds hl h5 ob=>
    refine⟨a,rfl,.inl ⟨_,O,_,s2.ext.nh _ _ k2,rfl,?_,λU=>?_⟩⟩
    ·rw[length_zip];omega
    ·rw[qq hl];exact p σ _ ⟨_,s2.writeB ei h1 (.dk (ng hl _ _) (h5.put ((i1.mono c).mono (eV λa o e q=>⟨G.bn a o e,q⟩))))⟩
  ·cases e
 ·cases e
end
section
variable {X:Cx}{pos:Pos}{e k:Expr}
def GC (hu:X.A.units+1<cLine)(hv:JE X e fv)(hk:JE X k fk)(O:X.N[i]? = some y:=by rfl)(G:L1 X.env.scope y:=by first|exact Or.inl rfl|exact Or.inr (Or.inl rfl)|exact Or.inr (Or.inr rfl))(hd:(y == ("__debug__" : Str))=false:=by decide)
  (M:(y == ("__classdict__" : Str))=false:=by decide) (hs:swapsWith e (some (.Subscript (.Name y py) k pt)) pos.line X.env=pure false:=by rfl):JS X (.Assign [.Subscript (.Name y py) k pt] e pos) (rJ i fk fv) :=
 PS.to (wO hu (q9 O G hd M) hk hv hs) λ_ _ _ q=>Eg q
end
section
variable {prog:Program}{w:World}{A:Around}{E:QV}{s:Shared}
theorem C3:∀(vs:LU)(ns:LI),vs.length=ns.length->(∀(i:Nat)(v:Value),vs[i]? = some v->∃(m:Int)(t:Tok),ns[i]? = some m/\v=Value.int m t)->IntsAre vs ns
 |[],[],_,_=>.nil
 |v::vs,n::ns,h,k=>by
  obtain⟨m,t,e,rfl⟩:=k 0 v rfl;cases (show some n=some m from e)
  exact .cons n t (C3 vs ns (by simpa using h) λi v hv=>k (i+1) v hv)
def zn (hh:A.handled=none)(lo:(a == sysModules)=false)(hm:s.heap.DictAt (cu prog w) a aM ep)(hk:aM.map (·.1)=ns.map .inl)(Oc:ns.length<64)
  (hQ:∀(h1 h':Heap)(tk:Nat)(b:Addr)(out:AV)(n:Nat)(M:LI),(∀c u,s.heap.get? c=some u->h1.get? c=some u)->(∀c u,h1.get? c=some u->h'.get? c=some u)->h1.objs.size<=b->h'.get? b=some (seqObj "list" out n) ->
   IntsAre out.toList M->M.Perm ns->M.Pairwise (·<=·)->Q (.ref b) { s with heap:=h',toks:=tk }):
  wpAny (model prog w) A (call (.builtin "sorted") [.ref a]) Q E s:=by
 refine Calls.call_function_entry kind_sorted plain_sorted entry_sorted (args_sorted1 _) ?_;unfold Builtin.«sorted»;refine wX (m:=checkCount "sorted" 1 1 _) (wY ?_);have UE:aM.length=ns.length:=by have:=congrArg List.length hk;simpa using this
 refine wX (kdu_collect (A:=A.in1) (kdl_dict lo) (by exact hh) hm (by rw[sizeLine_eq];omega) λh1 tk G T O=>?_);have U:G.toList.length=ns.length:=by rw[vG,O.1,UE]
 have EF:IntsAre G.toList ns:=C3 G.toList ns U λi v hv=>by
  obtain⟨k,x,e1,e2⟩:=O.2 i v (by simpa using hv);have e3:(aM.map (·.1))[i]? = some k:=by rw[vA,e1];rfl
  rw[hk,vA]at e3;obtain⟨m,e4,rfl⟩:=oY e3;obtain⟨t,rfl⟩:=Value.isInt_shape (k:=m) (v:=v) e2;exact⟨m,t,e4,rfl⟩
 refine wX (wpAny_newList ?_ (by rw[U,sizeLine_eq];omega));have PJ:(h1.push (seqObj "list" G.toList.toArray 0)).get? h1.objs.size=some (seqObj "list" G.toList.toArray 0):=vY _ rfl;show wpAny _ _ _ _ _ { s with heap:=h1.push (seqObj "list" G.toList.toArray 0),toks:=tk };refine wX (wpAny_holding (wpAny_call_entry slot_list_sort ⟨_,PJ,rfl⟩ entry_list_sort (list_sort_tree PJ EF (by rw[U];exact Oc) λout M a1 a2 a3=>⟨_,rfl,?_⟩) (args_list_sort _)));obtain⟨n,he⟩:=sortedHeap_at (out:=out) PJ;refine wY ⟨_,rfl,hQ h1 _ _ _ out n M T (λb u q=>?_) (vT _) he a1 a2 a3⟩;have hl:=vX q;rw[sortedHeap_old (vS hl) (by rw[size_push'];exact lt_succ_of_lt hl)];exact vZ _ q
end
noncomputable def vw:LK->Option LI
 |[]=>some []
 |.inl n::ks=>(vw ks).map (n :: ·)
 |.inr _::_=>none
theorem zo:∀ {ks:LK}{ns:LI},vw ks=some ns->ks=ns.map .inl
 |[],_,h=>by cases h;rfl
 |.inl n::ks,_,h=>by
  obtain⟨r,h1,rfl⟩:=oY h;rw[zo h1];rfl
 |.inr _::_,_,h=>by cases h
def J9 {aM:List (eK×V)}{vs:List (eK×Value)}(r:KV aM vs):vs.map (·.1)=aM.map (·.1):=by
 unfold KV at r;induction r with
 |nil=>rfl
 |cons h t G=>rw[uY,uY,G,h.1]
@[simp] def j7:LD->OB
 |[.dk ks _]=>(vw ks).bind λns=>if ns.length<64 then some (.lst ((ri ns).map .int),true)else none
 |_=>none
section
variable {X:Cx}
def Eh (hc:X.calm=true):c8 X (.builtin "sorted") (EA X.K j7):=by
 intro ah s σ H xs us Q I r h;obtain⟨B,dl,d,bb,sB,i,G,q⟩:=h;cases i with
 |nil=>simp[j7]at G
 |cons i1 i2=>
  cases i2 with
  |cons _ _=>cases i1<;>simp[j7]at G
  |nil=>
   cases i1 with
   |@dk a ks vs ds ob hd hl hs=>
    obtain⟨u,rfl,rx⟩:=jX r;cases rx
    simp only[j7]at G;obtain⟨ns,en,G⟩:=oX G;split at G
    ·rename_i O;cases G
     have T:=sB _ _ hd;obtain⟨es,ep,U⟩:=xH I.hok T;obtain⟨Sz,r',m⟩:=rF I.hok T U;have X9:Sz.map (·.1)=ns.map .inl:=by rw[J9 r',List.map_fst_zip (by omega),zo en]
     refine zn (I.ok.hd hc) (qE I.hok T).2.1 m X9 O λh1 h' tk b out n ns' k1 k2 hb he EF M Qu=>?_;have e:=FX M Qu;subst e;have I1:Inv X ah σ H { s with heap:=h1,toks:=tk }:=uO I k1 rfl rfl;have hf:H b=none:=I1.hok.fresh hb;have xt:=Ext.laid (o:=.lst ((ri ns).map V.int)) sB hf;exact⟨.ref b,_,I1.laid (t':=tk) k2 hb (show bR X.prog X.w _ h' _ (.lst ((ri ns).map V.int))from ⟨by rw[vI];unfold ri;rw[(bH _ ns).length_eq,sizeLine_eq];omega,out.toList,n,jx EF,he⟩),rfl,q _ _ _ xt (.lst (gT.of aB) (rj _)) λ_=>⟨_,_,_,rfl,rfl,hf,aB,rj _⟩⟩
    ·cases G
   |_=>simp[j7]at G
def MJ (hu:X.A.units+1<cLine)(hi:JE X i fi)(T:JE X o fo)(hm:behindInMarks .In o=false:=by first|exact km _ (by decide) (by decide)|rfl):JE X (.Compare i [.In] [o] pos) (f2 Q7 fi fo):=by
 refine PE.to (L7 (Mj hu hi T) hm) λσ H Q q=>?_;obtain⟨B,ρ,d,bb,U,r,G,q⟩:=q;obtain⟨y,ey,G⟩:=oX G;obtain⟨x,ex,G⟩:=oX G;refine⟨B,ρ,y.1,y.2,U,r,ey,λv2 H1 N1 M i2 _=>⟨N1,ρ,x.1,x.2,M.nh,r.mono M.bn,ex,λv H2 N2 O i1 ff=>?_⟩⟩;obtain⟨xd,xb⟩:=x;cases i1 with
 |@dk a ks vs ds ob h hl hs=>
  simp only[Q7]at G;obtain⟨k,hk,G⟩:=oY G;cases G
  have hv:=vp i2 hk;subst hv;refine⟨a,ko (ks.zip vs) k,rfl,.inl ⟨_,k,_,.inl (O.nh _ _ h),rfl,rfl⟩,?_⟩;rw[DW hl hs];exact(q.into (M.trans O)).one O.nh (.bl _)
 |_=>simp[Q7]at G
end
end DL
namespace DL
open PySem PySem.Spec PyProof.Rows L2
@[simp] abbrev fV (i:Nat)(g:FA):FA:=ag (am i) g
@[simp] abbrev fI (n:Int):FE:=fC (.int n)
@[simp] abbrev fS (s:PySem.Str):FE:=fC (.str s)
section
variable {X:Cx}{es:QD}{g:FA}{pos:Pos}
def aJ {x:Str}{p:Pos}(i:Nat)(G:JA X es g)(M:PE X (.Name x p) (om i):=by exact pv)
  (hs:starEach (.Name x p::es) X.env=(false,eval (.Name x p) X.env)::starEach es X.env:=by rfl):JA X (.Name x p::es) (fV i g):=ai (ak i M) G hs
def eP {i:Int}{j:Nat}(G:JA X es g):JA X (.Constant (.int i) j pos::es) (ag (fC (.int i)) g):=ai aA G
def a0 (F:Fn X.prog X.w X.K X.mg X.base k x f)(O:eJ j X.A)(ha:JA X (e::es) g:=by repeat first|exact ao|refine aJ _ ?_|refine ai a7 ?_)(hj:k<=j:=by decide)(T:Gl X x:=by rfl)(G:(x == ("__debug__" : Str))=false:=by decide)(he:starEach (e::es) X.env=(false,eval e X.env)::starEach es X.env:=by rfl)(M:(backTo pos (starEach es X.env)).any (·.1)=false:=by rfl):JE X (.Call (.Name x p) (e::es) [] pos) (fA f g):=BO F (O.mono hj) ha T G he M
def aO (he:JE X e f):tY X [.Return (some e) pos] (aE f):=bj (Fu he)
def bw {c:Expr}{G:FT}(hc:JT X c G)(he:JE X e f):JS X (.If c [.Return (some e) p] [] pos) (cN G (aE f) aP):=hU hc (bj (Fu he)) gW
def aW (i:Nat)(G:PE X (.Name x p) (om i):=by exact pv):JE X (.Subscript (.Name x p) (.Constant (.int n) j q) pos) (cj i n):=bd (ak i G) aA
end
def Bm:bootBuiltins "reversed" = some (.type "reversed"):=by decide +kernel
@[simp] def T9 (i:Nat)(fa:FA):FS:=λρ=>(fa (gU ρ)).bind λds=>if ds.length<=sizeLine then some (.nx (ρ.set i (some (.lst ds,true))))else none
@[simp] def TB (i:Nat)(f:FE):FS:=λρ=>match ρ[i]? with
 |some (some (.lst ds,true))=>(f (gU ρ)).bind λx=>if ds.length<sizeLine then some (.nx (ρ.set i (some (.lst (ds++[x.1]),true))))else none
 |_=>none
def JB (K:Frag)(x:Str)(st:Stmt):Prop:=∃(f T:Addr)(oc:Value)(od an:Option Addr)(kV doc pm cV ct:Value)(lY:Array (Option Value))(G:Obj)(n:Nat),
 K.lookup f=some ⟨oc,od,.func (fnOf x x (dN st) (ca st) (aL st) (.ref T) kV doc pm an cV ct),lY⟩/\PySem.W.codeIn K cV x=true/\PySem.W.keepIn K (.ref f)=true/\nsIn K mainGlobals x=some (some (.ref f))/\K.lookup T=some G/\G.data=.seq #[.none] n
def defD_mk {K:Frag}{x:Str}{st:Stmt}{f T:Addr}{oc M:Value}{od an O:Option Addr}{lY G:Array (Option Value)}{kV doc pm cV ct:Value}{n:Nat}(a:nsIn K mainGlobals x=some (some (.ref f)))
  (l:K.lookup f=some ⟨oc,od,.func (fnOf x x (dN st) (ca st) (aL st) (.ref T) kV doc pm an cV ct),lY⟩) (c:PySem.W.codeIn K cV x=true) (k:PySem.W.keepIn K (.ref f)=true) (t:K.lookup T=some ⟨M,O,.seq #[.none] n,G⟩):JB K x st:=⟨f,T,oc,od,an,kV,doc,pm,cV,ct,lY,_,n,l,c,k,a,t,rfl⟩
structure FnD (P:Program)(w:World)(K:Frag)(mg:Str->Option Value)(base:Heap)(k:Nat)(x:Str)(f:List D->OB):Prop where
 ex:∃(ad:Addr)(fd:FuncData)(ps:List Str),tR P w K mg base yc k ad fd ps (Fv K f)/\mg x=some (.ref ad)/\PySem.W.keepIn K (.ref ad)=true/\pe K fd ps []/\pe K fd ps [.none]
def FnD.fn {P:Program}{w:World}{K:Frag}{mg:SV}{base:Heap}(F:FnD P w K mg base k x f):Fn P w K mg base k x f:=let ⟨ad,fd,ps,h1,h2,h3,h4,_⟩:=F.ex;⟨ad,fd,ps,h1,h2,h3,h4⟩
@[simp] noncomputable def RC (op:LD->OB)(fa:FA):FE:=λρ=>(fa ρ).bind λds=>op (ds++[.non])
section
variable {X:Cx}{e:Expr}{es:QD}{p pos:Pos}
def Pp (F:FnD X.prog X.w X.K X.mg X.base k x f)(T:eJ j X.A)(ha:JA X (e::es) fa)(hj:k<=j:=by decide)(U:Gl X x:=by rfl)
  (G:(x == ("__debug__" : Str))=false:=by decide) (he:starEach (e::es) X.env=(false,eval e X.env)::starEach es X.env:=by rfl) (M:(backTo pos (starEach es X.env)).any (·.1)=false:=by rfl):
  JE X (.Call (.Name x p) (e::es) [] pos) (RC f fa):=by
 obtain⟨ad,fd,ps,F1,hm,hk,_,hb⟩:=F.ex;refine PE.to (BH F1 (T.mono hj) U hm hk hb (.cons (show L2.be V.non Value.none from rfl) .nil) KP ha G he M) λσ H Q q=>?_;obtain⟨B,ρ,d,b,s,r,e,q⟩:=q;obtain⟨ds,ex,e⟩:=oX e;exact⟨B,ρ,ds,s,r,ex,λvs H1 N1 O i1=>⟨N1,ds++[.non],d,b,⟨O.nh,r.tb.mono O.bn⟩,i1.append (.cons .non .nil),e,q.into O⟩⟩
end
section
variable {P:Program}{w:World}{K:Frag}{mg:SV}{base:Heap}
def JB.fqD {x:Str}{st:Stmt}{k:Nat}{F':LD->OB}(F:JB K x st)(B:∃h,K.In h/\h.Ns mainGlobals mg)(g:FS)(N:LS)(n:Nat)
  (hb:∀ {f:Addr}{cV:Value}{A:Around}{outer:List PySem.Env}{s:Shared}{H:Hp}{E:XK},N.Nodup->eJ k (A.deeper (envOfC x (aL st) s.heap.objs.size f cV))->(A.deeper (envOfC x (aL st) s.heap.objs.size f cV)).units+40<cLine->tY (ot yc P w K mg base N x (aL st) f cV A outer s H E).nox (ca st) g)
  (S:FnScope N (N.take n) (aL st):=by refine⟨rfl,rfl,rfl,?_,rfl,?_,?_⟩<;>decide +kernel)
  (U:∀(T:Addr)(kV doc pm:Value)(an:Option Addr)(cV ct:Value)(us:LU),us.length=(N.take n).length->∃O,bindArgs (fnOf x x (dN st) (ca st) (aL st) (.ref T) kV doc pm an cV ct) ⟨us,[]⟩=seqItems? (.ref T)>>=O/\O (some #[.none])=pure ((N.take n).zip us):=by
   exact λ_ _ _ _ _ _ _=>G7 _ _ (by(repeat intro);exact⟨_,rfl,rfl⟩))
  (hb1:∀(T:Addr)(kV doc pm:Value)(an:Option Addr)(cV ct:Value)(us:LU),us.length=(N.take n).length - 1->∃O,bindArgs (fnOf x x (dN st) (ca st) (aL st) (.ref T) kV doc pm an cV ct) ⟨us,[]⟩=seqItems? (.ref T)>>=O/\O (some #[.none])=pure ((N.take n).zip (us++[.none])):=by
   exact λ_ _ _ _ _ _ _=>G7 _ _ (by(repeat intro);exact⟨_,rfl,rfl⟩))
  (e:aD g (N.take n).length (N.length - (N.take n).length)=F':=by rfl):FnD P w K mg base (k+1) x F':=by
 subst e;obtain⟨h,X,G⟩:=B;obtain⟨f,T,oc,od,an,kV,doc,pm,cV,ct,lY,oT,m,lk,K4,kp,a,lt,dt⟩:=F;have len:∀vs H Q E,Fv K (aD g (N.take n).length (N.length - (N.take n).length)) vs H Q E->vs.length=(N.take n).length:=λvs H Q E h=>by
  obtain⟨B,ds,d,b,sB,i,e,q⟩:=h;unfold aD at e;split at e
  ·rename_i hl;rw[i.length];exact hl
  ·cases e
 refine⟨f,_,N.take n,ES lk K4 S len λA outer s H vs Q E hr h=>⟨_,tU.nox (hb S.nd hr (AH hr)),?_⟩,mg_of X G a,kp,λs us KX hl=>?_,λs us KX hl=>?_⟩
 ·have M:=len vs H Q E h;obtain⟨B,ds,d,b,sB,i,e,q⟩:=h;unfold aD at e;rw[if_pos (by rw[←i.length];exact M)]at e;have s0:=qO (N:=N) sB.1 sB.2 i;rw[M]at s0;split at e
  ·rename_i d' b' eg;cases e
   exact⟨B,H,_,_,⟨B,s0⟩,eg,λv H' N' x' i' f'=>q v H' N' x' i' f'⟩
  ·rename_i ρ' eg;cases e
   exact⟨B,H,_,_,⟨B,s0⟩,eg,λσ' H' ⟨N',s'⟩=>q _ _ _ s'.ext .non (by simp)⟩
  ·cases e
 ·rw[uQ]at hl ⊢;obtain⟨O,h1,h2⟩:=U T kV doc pm an cV ct us hl;exact .of_defaults rfl (KX _ _ lt) dt h1 h2
 ·rw[uZ,length_singleton]at hl;obtain⟨O,h1,h2⟩:=hb1 T kV doc pm an cV ct us (by omega);exact .of_defaults rfl (KX _ _ lt) dt h1 h2
end
end DL
namespace L2
open PySem PySem.Spec PyProof.Rows
noncomputable def RD (K:Frag)(a:Addr)(xs:List V):It:=⟨λi H=>gT K H a xs/\i<xs.length,λi H v H'=>H'=H/\xs[xs.length - 1 - i]? = some v,λi H=>gT K H a xs/\xs.length<=i⟩
def GD {P:Program}{w:World}{K:Frag}{tg:Expr}(a it:Addr)(xs:List V):Turn P w K tg (RD K a xs) [it] it (λi h=>i<=xs.length/\h.IsRevIter it a ((xs.length:Int) - 1 - (i:Int))) where
 mem:=by simp
 obj:=λi h st b hb=>by
  have e:b=it:=by simpa using hb
  subst e;obtain⟨_,o,e,c,d⟩:=st;exact⟨o,e,λv z=>by rw[d]at z;cases z⟩
 keep:=λi h h' st k=>⟨st.1,st.2.at λo e=>k it (by simp) o e⟩
 item:=by
  intro X M hw O hc i ah s σ H E I hf st T;subst M hw O;obtain⟨hq,hi⟩:=T;obtain⟨x,hx⟩:∃x,xs[xs.length - 1 - i]? = some x:=⟨_,vU (by omega)⟩;obtain⟨its,U,p,hz⟩:=I.list hq;obtain⟨u,hu,ru⟩:=U.get hx;obtain⟨f0,f1,f2,f3,f4,f5⟩:=hf it (by simp);have tS:=st.2;rw[show(xs.length:Int) - 1 - (i:Int)=((xs.length - 1 - i:Nat):Int) by omega]at tS;refine wpAny_pyNext_rev_item tS p.isList (x:=u) (by simpa using hu) λh' G sb=>?_;have I1:Inv X ah σ H { s with heap:=h' }:=I.turned (t':=s.toks) (λb o hb e=>(sb.2 b hb).trans e) f0 f1 f3 f4 f5;obtain⟨o,e,c,d⟩:=id G;refine⟨u,rfl,qA (s:={ s with heap:=h' }) e c d (by decide) ⟨x,H,I1,ru,⟨rfl,hx⟩,⟨by omega,?_⟩,λb hb=>(hf b hb).1⟩⟩;rw[show(xs.length:Int) - 1 - ((i+1:Nat):Int)=((xs.length - 1 - i:Nat):Int) - 1 by omega];exact G
 done:=by
  intro X M hw O hc i ah s σ H E I hf st T;subst M hw O;obtain⟨hq,hx⟩:=T;obtain⟨f0,f1,f2,f3,f4,f5⟩:=hf it (by simp);have tS:=st.2;rw[show(xs.length:Int) - 1 - (i:Int) = -1 by have:=st.1;omega]at tS;exact wpAny_pyNext_rev_end (I.ok.hd hc) tS λh' eb=>⟨rfl,I.turned (t':=s.toks) (λb o hb e=>eb b o hb e) f0 f1 f3 f4 f5⟩
 self:=λ_ _ _ _ _ st h=>wpAny_pyIter_revIter st.2 h
end L2
namespace DL
open PySem PySem.Spec PyProof.Rows L2
@[simp] noncomputable def JD (fa:FE):FA:=λρ=>(fa ρ).bind λx=>match x.1 with
 |.lst ds=>some ds.reverse
 |_=>none
def ML {K:Frag}{N:Hp}{l:Addr}{vs:LV}{ds:LD}(h1:gT K N l vs)(i1:IsL K N vs ds):mM K (RD K l vs) N ds.reverse:=by
 intro i H' G;have n1:=i1.length;refine⟨λd ed=>?_,λhl=>⟨G.seq h1,by rw[List.length_reverse]at hl;omega⟩⟩;have hi:i<ds.length:=by have:=(vV ed).1;rwa [List.length_reverse]at this
 rw[List.getElem?_reverse hi]at ed;obtain⟨v,M,iv⟩:=i1.get ed;refine⟨⟨G.seq h1,by omega⟩,λr H2 hy=>?_⟩;obtain⟨rfl,e⟩:=hy;rw[show vs.length - 1 - i=ds.length - 1 - i by omega,M]at e;cases e
 exact⟨N,.refl G,iv⟩
section
variable {X:Cx}{a e:Expr}{pos p:Pos}
def MN {fa:FE}(hm:X.mg "reversed" = none)(ha:JE X a fa)(hg:Gl X "reversed":=by rfl)(hs:starEach [a] X.env=[(false,eval a X.env)]:=by rfl):
  JI X tg (.Call (.Name "reversed" p) [a] [] pos) (JD fa):=by
 intro ah s σ H R I q;refine Call_ (i6 I hg hm Bm (PyProof.Rows.callWith_type1 (c7 (ai ha ao hs pos ah s σ H (λvs G=>∃(l:Addr)(us:LV),vs=[.ref l]/\gT X.K G l us/\R (RD X.K l us) G) I ?_) λus s1 ⟨vs,G,O,r1,q1⟩=>?_) hs rfl))
 ·obtain⟨B,ρ,ds,sB,r,T,q⟩:=q;obtain⟨⟨xd,xb⟩,ex,T⟩:=oX T;cases xd<;>try (cases T;done)
  rename_i U;cases T
  refine⟨B,ρ,[.lst U],sB,r,by simp[ag,aj,ex],λvs G N1 xt i1=>?_⟩;cases i1 with
  |cons j1 j2=>
   cases j2
   cases j1
   rename_i l M h m1;exact⟨l,M,rfl,xt.nh.seq h,q _ G N1 xt (ML h m1)⟩
 ·obtain⟨l,M,rfl,h1,q⟩:=q1;obtain⟨u1,rfl,Nz⟩:=r1.one;cases Nz
  obtain⟨its,v1,p1,z1⟩:=O.list h1;refine call_reversed_list p1.isList ?_;have tS:Heap.IsRevIter (s1.heap.push (revObj l ((its.toArray.size:Int) - 1))) s1.heap.objs.size l ((its.toArray.size:Int) - 1):=⟨_,vY _ rfl,rfl,rfl⟩;refine wpAny_pyIter_revIter (s:={ s1 with heap:=s1.heap.push (revObj l ((its.toArray.size:Int) - 1)) }) tS ⟨s1.heap.objs.size,[s1.heap.objs.size],_,_,G,rfl,O.kept (t':=s1.toks) λb o e=>vZ _ e,GD l s1.heap.objs.size M,⟨uN _,?_⟩,λb hb=>?_,q⟩
  ·rw[vH,←v1.length]at tS;rw[show(M.length:Int) - 1 - ((0:Nat):Int)=(M.length:Int) - 1 by omega];rw[vH,←v1.length];exact tS
  ·have e:b=s1.heap.objs.size:=by simpa using hb
   subst e;exact O.fpOk (vT _) (O.hok.fresh (vT _))
end
end DL
namespace DL
open PySem L2
def eZ (I:Nat->Env->Prop)(ds:LD)(M:Env)(h0:I 0 M)
  (step:∀i d ρ,ds[i]? = some d->I i ρ->∃G ρ',tg d ρ=some G/\(g G=some (.nx ρ')∨g G=some (.ct ρ'))/\I (i+1) ρ'):
  ∃ρ',gV tg g ds M=some (.nx ρ')/\I ds.length ρ':=by
 have O:∀(es:LD)(i:Nat)(ρ:Env),ds.drop i=es->i+es.length=ds.length->I i ρ->∃ρ',gV tg g es ρ=some (.nx ρ')/\I ds.length ρ':=by
  intro es;induction es with
  |nil=>intro i ρ e hl h;refine⟨ρ,by rw[qH],?_⟩;rw[←hl];exact h
  |cons d es U=>
   intro i ρ e hl h;have hd:ds[i]? = some d:=by
    have:(ds.drop i)[0]? = some d:=by rw[e];rfl
    rwa [List.getElem?_drop,Nat.add_zero]at this
   obtain⟨G,ρ',h1,h2,h3⟩:=step i d ρ hd h;have he:ds.drop (i+1)=es:=by rw[←List.drop_drop,e];rfl
   obtain⟨T,k1,k2⟩:=U (i+1) ρ' he (by simp at hl;omega) h3;refine⟨T,?_,k2⟩;rw[lx,h1];rcases h2 with h2|h2<;>simp only[vJ,h2]<;>exact k1
 exact O ds 0 M (by simp) (by simp) h0
def rK (n:Nat)(I:Nat->Env->Prop)(G:Env)(h0:I 0 G)
  (step:∀(i:Nat) ρ,i<n->I i ρ->∃M ρ',tg (.int (i:Int)) ρ=some M/\(g M=some (.nx ρ')∨g M=some (.ct ρ'))/\I (i+1) ρ'):
  ∃ρ',gV tg g (jJ 0 n) G=some (.nx ρ')/\I n ρ':=by
 have hl:(jJ 0 n).length=n:=by simp[jJ]
 obtain⟨ρ',h1,h2⟩:=eZ (tg:=tg) (g:=g) I (jJ 0 n) G h0 λi d ρ hd h=>by
  unfold jJ at hd;rw[vA]at hd;obtain⟨k,hk,hd⟩:=oY hd;obtain⟨O,hk⟩:=vV hk;rw[length_range]at O;rw[List.getElem_range]at hk;subst hk;rw[Int.zero_add]at hd;subst hd;exact step i ρ O h
 rw[hl]at h2;exact⟨ρ',h1,h2⟩
def kO {α:Type}{xs:List α}{j:Nat}(h:j<xs.length):mD xs (j:Int)=some xs[j]:=ID (by simp[h])
def xJ {α:Type}{xs:List α}{i:Int}(h0:0<=i)(h:i.toNat<xs.length):mD xs i=some xs[i.toNat]:=by
 have:=kO h;rwa [Int.toNat_of_nonneg h0]at this
@[simp] def iV (xs:LI):bD (xs.map D.int)=true:=by
 induction xs with
 |nil=>simp
 |cons x xs G=>simp[G]
@[simp] def Ie (n:Nat)(xs:LI):(xs.map D.int).all (aH n)=true:=by
 induction xs with
 |nil=>simp
 |cons x xs G=>simpa using G
@[simp] def JF (xs:LI):(xs.map D.int).all fT=true:=by
 induction xs with
 |nil=>simp
 |cons x xs G=>simpa using G
mutual
def nj:D->D->Bool
 |.non,.non=>true
 |.bl a,.bl b=>a == b
 |.int a,.int b=>decide (a=b)
 |.str a,.str b=>decide (a=b)
 |.ty a,.ty b=>decide (a=b)
 |.tup xs,.tup ys=>rL xs ys
 |.lst xs,.lst ys=>rL xs ys
 |_,_=>false
def rL:LD->LD->Bool
 |[],[]=>true
 |x::xs,y::ys=>nj x y && rL xs ys
 |_,_=>false
end
mutual
theorem C4:∀ {x y:D},nj x y=true->x=y
 |.non,.non,_=>rfl
 |.bl a,.bl b,h=>by simp[nj]at h;rw[h]
 |.int a,.int b,h=>by simp[nj]at h;rw[h]
 |.str a,.str b,h=>by simp[nj]at h;rw[h]
 |.ty a,.ty b,h=>by simp[nj]at h;rw[h]
 |.tup xs,.tup ys,h=>by rw[nj]at h;rw[rM h]
 |.lst xs,.lst ys,h=>by rw[nj]at h;rw[rM h]
theorem rM:∀ {xs ys:LD},rL xs ys=true->xs=ys
 |[],[],_=>rfl
 |x::xs,y::ys,h=>by
  rw[rL,vC]at h;rw[C4 h.1,rM h.2]
end
def Pq (r:OB)(d:D)(b:Bool):Bool:=match r with
 |some (e,c)=>nj e d && c == b
 |none=>false
def rN (h:Pq r d b=true):r=some (d,b):=by
 unfold Pq at h;split at h
 ·rw[vC]at h;rw[C4 h.1,eq_of_beq h.2]
 ·cases h
section
variable {f:FE}{c:FT}{g g' h:FS}{ρ ρ':Env}{i:Nat}{d:D}{b:Bool}{r:Option Res}{ds:LD}
def aw (hl:ds.length=n)(e:g (ds.map (λd=>some (d,false))++List.replicate k none)=some (.rt d b)):aD g n k ds=some (d,b):=by
 unfold aD;rw[if_pos hl,e]
def vx (n:bC d=true):setE ρ i d b=ρ.set i (some (d,false)):=by unfold setE;rw[if_pos n]
def zp (n:bD ds=true):setE ρ i (.lst ds) true=ρ.set i (some (.lst ds,true)):=by
 unfold setE;rw[if_neg (by simp),if_pos ⟨rfl,by simpa using n⟩]
def Lk (e:f ρ=some (d,b))(k:h (setE ρ i d b)=r):a8 (ba i f) h ρ=r:=by simp[e];exact k
def rO (e:f ρ=some (d,b))(n:bC d=true)(k:h (ρ.set i (some (d,false)))=r):a8 (ba i f) h ρ=r:=Lk e (by rw[vx n];exact k)
def cG (e:f ρ=some (.lst ds,true))(n:bD ds=true)(k:h (ρ.set i (some (.lst ds,true)))=r):a8 (ba i f) h ρ=r:=Lk e (by rw[zp n];exact k)
def dP (e:g ρ=some (.nx ρ'))(k:h ρ'=r):a8 g h ρ=r:=by unfold a8;rw[e];exact k
def MO (e:g ρ=some (.rt d b)):a8 g h ρ=some (.rt d b):=by unfold a8;rw[e]
def RE (e:g ρ=some (.ct ρ')):a8 g h ρ=some (.ct ρ'):=by unfold a8;rw[e]
def xK (e:c ρ=some true)(k:g ρ=r):cN c g g' ρ=r:=by unfold cN;rw[e];exact k
def nn (e:c ρ=some false)(k:g' ρ=r):cN c g g' ρ=r:=by unfold cN;rw[e];exact k
def Pr (e:c ρ=some x)(G:x=true->g ρ=r)(M:x=false->g' ρ=r):cN c g g' ρ=r:=by
 cases x with
 |true=>exact xK e (G rfl)
 |false=>exact nn e (M rfl)
def bF (e:c ρ=some true)(k:g ρ=some (.rt d b)):a8 (cN c g g') h ρ=some (.rt d b):=MO (xK e k)
def aK (e:c ρ=some false)(k:h ρ=r):a8 (cN c g aP) h ρ=r:=dP (nn e rfl) k
def ay (e:f ρ=some (d,b)):aE f ρ=some (.rt d b):=by simp[e]
def lB (e:ρ[i]? = some (some (d,b)))(hb:Fm d=false:=by rfl):hG i ρ=some (.rt d b):=by simp only[hG,e,hb];simp
def kP (e:f ρ=some (d,b))(n:bC d=true):ba i f ρ=some (.nx (ρ.set i (some (d,false)))):=by
 show(f ρ).map _=_;rw[e,map_some,vx n]
def qt (e:f ρ=some (.lst ds,true))(n:bD ds=true):ba i f ρ=some (.nx (ρ.set i (some (.lst ds,true)))):=by
 show(f ρ).map _=_;rw[e,map_some,zp n]
def oD (e:ρ[i]? = some (some (.lst ds,true)))(G:f ρ=some (d,b))(n:bC d=true)(l:ds.length<sizeLine):mL i f ρ=some (.nx (ρ.set i (some (.lst (ds++[d]),true)))):=by
 simp[e,G,n,l]
def Ll (e:ρ[i]? = some (some (.lst ds,true)))(G:f ρ=some (d,b))(n:bC d=true)(l:ds.length<sizeLine)(k:h (ρ.set i (some (.lst (ds++[d]),true)))=r):a8 (mL i f) h ρ=r:=dP (oD e G n l) k
def rP (e:fi ρ=some ds)(k:gV tg g ds ρ=some (.nx ρ')):ph fi tg g ρ=some (.nx ρ'):=by unfold ph;rw[e];exact k
def gI (e:fi (gU ρ)=some ds)(k:gV tg g ds ρ=some (.nx ρ')):kx fi tg g ρ=some (.nx ρ'):=by unfold kx;rw[e];exact k
def oE {f:FE}{j:Nat}(e:f ρ=some (.int j,b))(hj:j<=1000):md f ρ=some (jJ 0 j):=by
 unfold md;rw[e];simp only[];rw[if_pos (by omega)];simp
def dz (e:f ρ=some (.bl x,b)):aT f ρ=some x:=by unfold aT;rw[e]
def bG (e:fa ρ=some ds)(k:F ds=x):fA F fa ρ=x:=by unfold fA;rw[e,vJ];exact k
def zq {f1 g1:D->D->OB}{fa G M:FE}{x y z:D}{b1 b2 b3 b4 p q:Bool}(O:fa ρ=some (x,b1))(T:G ρ=some (y,b2))(U:M ρ=some (z,b3))(e1:f1 x y=some (.bl p,b4))(e2:p=true->g1 y z=some (.bl q,false)):i7 f1 g1 fa G M ρ=some (.bl (p && q),false):=by
 unfold i7;rw[O,T,U];simp only[vJ,e1];cases p
 ·rfl
 ·exact e2 rfl
def dA {f1 f2:FE}{p q b1:Bool}(G:f1 ρ=some (.bl p,b1))(e2:p=true->f2 ρ=some (.bl q,false)):ie f1 f2 ρ=some (.bl (p && q),false):=by
 unfold ie;rw[G];cases p
 ·rfl
 ·exact e2 rfl
def no {f1 f2:FE}{p q b1:Bool}(G:f1 ρ=some (.bl p,b1))(e2:p=false->f2 ρ=some (.bl q,false)):Ft f1 f2 ρ=some (.bl (p || q),false):=by
 unfold Ft;rw[G];cases p
 ·exact e2 rfl
 ·rfl
def aS (G:f ρ=some (d,b))(e2:fr ρ=some xs):ag f fr ρ=some (d::xs):=by
 unfold ag;rw[G,vJ,e2,vJ]
def cK (G:fa ρ=some (x,b1))(e2:fb ρ=some (y,b2))(M:op x y=z):f2 op fa fb ρ=z:=by
 unfold f2;rw[G,vJ,e2,vJ];exact M
def ft (G:c1 ρ=some p)(e2:p=true->c2 ρ=some q):eU c1 c2 ρ=some (p && q):=by
 unfold eU;rw[G];cases p
 ·rfl
 ·exact e2 rfl
def ee (G:c1 ρ=some p)(e2:p=false->c2 ρ=some q):dQ c1 c2 ρ=some (p || q):=by
 unfold dQ;rw[G];cases p
 ·exact e2 rfl
 ·rfl
def bN (G:c1 ρ=some p):bU c1 ρ=some (!p):=by
 unfold bU;rw[G];rfl
end
def ED (a c:Nat):decide ([a]<[c])=decide (a<c):=by
 congr 1;rw[cons_lt_cons_iff];simp
@[simp] def Q8 (a c:Nat):qQ (.str ⟨#[a]⟩) (.str ⟨#[c]⟩)=some (.bl (decide (a<=c)),false):=by
 unfold qQ;show some (D.bl (!decide ([c]<[a])),false)=_;rw[ED];congr 3;by_cases h:c<a
 ·rw[Aq h,PK (by omega)];rfl
 ·rw[PK h,Aq (by omega)];rfl
def cR (h:n<=100000):n<sizeLine:=lt_of_le_of_lt h (by decide)
def eA (h:n<=100000):n<=sizeLine:=le_of_lt (cR h)
def fW {α:Type}(l:List α)(g:α->D)(p:α->Bool)(h:α->D)(e:fi ρ=some (l.map g))(hl:l.length<=100000)
  (k:∀x∈l,∃G,tg (g x) (dq nT cap ρ)=some G/\c G=some (p x)/\(p x=true->∃b,fe G=some (h x,b))):bO fi nT cap tg c fe ρ=some (.lst ((l.filter p).map h),true):=by
 have T:∀M:List α,(∀x∈M,x∈l)->hJ tg c fe (dq nT cap ρ) (M.map g)=some ((M.filter p).map h):=by
  intro M;induction M with
  |nil=>intro _;simp
  |cons x M O=>
   intro hm;obtain⟨G,h1,h2,h3⟩:=k x (hm x mX);have O:=O λy hy=>hm y (mZ _ hy);rw[uY,AG,h1,vJ,h2,vJ];cases hp:p x with
   |false=>simp[hp,O]
   |true=>
    obtain⟨b,h4⟩:=h3 hp;simp[hp,O,h4]
 unfold bO;rw[e,vJ,if_pos (eA (by simpa using hl)),T l λ_ h=>h,map_some]
def px {α:Type}(l:List α)(g:α->D)(h:α->D)(e:fi ρ=some (l.map g))(hl:l.length<=100000)
  (k:∀x∈l,∃G,tg (g x) (dq nT cap ρ)=some G/\∃b,fe G=some (h x,b)):bO fi nT cap tg fR fe ρ=some (.lst (l.map h),true):=by
 have:=fW (c:=fR) (fe:=fe) l g (λ_=>true) h e hl λx hx=>by
  obtain⟨G,h1,h2⟩:=k x hx;exact⟨G,h1,rfl,λ_=>h2⟩
 rw[List.filter_eq_self.mpr λ_ _=>rfl]at this;exact this
@[simp] def rQ {α:Type}(f:α->Bool)(l:List α):ub (l.map λx=>.bl (f x))=some (l.map f):=by
 induction l with
 |nil=>rfl
 |cons x l G=>simp[G]
def Fa (h0:0<=i)(h:i.toNat<z.cps.size)(hz:z.length<=100000):bK (.str z) (.int i)=some (.str ⟨#[z.cps.toList.getD i.toNat 0]⟩,false):=by
 have hh:i.toNat<z.cps.toList.length:=by simpa using h
 simp only[bK];rw[if_pos (eA hz),xJ h0 hh];simp[List.getD,h]
def MP (h0:0<=i)(h:i.toNat<ds.length):bK (.lst ds) (.int i)=some (ds.getD i.toNat .non,false):=by
 simp only[bK];rw[xJ h0 h];simp[List.getD,h]
def EZ (h0:0<=i)(h:i.toNat<ds.length):bK (.tup ds) (.int i)=some (ds.getD i.toNat .non,false):=by
 simp only[bK];rw[xJ h0 h];simp[List.getD,h]
def xL {xs:LI}{i:Int}(h0:0<=i)(h:i.toNat<xs.length):bK (.lst (xs.map .int)) (.int i)=some (.int (xs.getD i.toNat 0),false):=by
 rw[MP h0 (by simpa using h)];simp[List.getD,h]
def mod_lt {x m:Int}(hm:0<m):0<=x % m/\x % m<m:=⟨Int.emod_nonneg _ (by omega),Int.emod_lt_of_pos _ hm⟩
def JG:dR [.lst ds]=some (.int ds.length,false):=rfl
def C5:dj (.int i) (.int j)=some (.bl (decide (i=j)),false):=by simp
def kQ (h:0<=v):HT.dS n d (some v)=min v.toNat n:=by
 show(if v<0 then (v+(n:Int)).toNat else min v.toNat n)=_;rw[if_neg (by omega)]
def bX (x y:D)(G:fa ρ=some (x,false))(e2:fb ρ=some (y,false))(M:op x y=z):f2 op fa fb ρ=z:=cK G e2 M
def dD (e:f ρ=some (.bl x,false)):aT f ρ=some x:=dz e
def bY (G:f ρ=some (d,false))(e2:fr ρ=some xs):ag f fr ρ=some (d::xs):=aS G e2
def aN (ds:LD)(e:fa ρ=some ds)(k:F ds=x):fA F fa ρ=x:=bG e k
def jC (d:D)(e:f ρ=some (d,false))(n:bC d=true)(k:h (ρ.set i (some (d,false)))=r):a8 (ba i f) h ρ=r:=rO e n k
@[simp] noncomputable abbrev XV (af:LD)(ae:Int)(t:Env):Env:=some (.tup af,false)::some (.int ae,false)::t
@[simp] noncomputable abbrev eR (ns:LI)(zs:LS)(M:Int)(G:LS)(R:LD)(a b:OB)(t:Env):Env:=some (.lst (ns.map .int),false)::some (.lst (zs.map .str),false)::some (.int M,false)::a::some (.lst (G.map .str),true)::some (.lst R,true)::b::t
end DL
namespace Lw
open PySem DL
noncomputable def lQ:D:=(.int 255)
noncomputable def rR:D:=(.int 9999)
noncomputable def kR:D:=(.int 9)
noncomputable def kT:D:=(.int 8)
noncomputable def lR:D:=(.int 20)
noncomputable def jk:D:=(.int 8)
noncomputable def iW:D:=(.int 60)
noncomputable def zr:D:=(.tup [(.str "paper"),(.str "like"),(.str "copy")])
noncomputable def bQ:List (PySem.Str×D):=[(("root" : Str),(.tup [(.str "office"),(.str "matters"),(.str "further"),(.str "rule")])),(("named" : Str),(.tup [(.str "day"),(.str "office"),(.str "person")])),(("chosen" : Str),(.tup [(.str "day"),(.str "by"),(.str "office"),(.str "person"),(.str "since")])),(("heir" : Str),(.tup [(.str "day"),(.str "by"),(.str "office"),(.str "person")])),(("death" : Str),(.tup [(.str "day"),(.str "person")])),(("lost" : Str),(.tup [(.str "day"),(.str "person")])),(("found" : Str),(.tup [(.str "day"),(.str "person")])),(("leave" : Str),(.tup [(.str "day"),(.str "by"),(.str "person"),(.str "matters"),(.str "stretch"),(.str "further")])),(("paper" : Str),(.tup [(.str "day"),(.str "by"),(.str "matters"),(.str "stretch"),(.str "whom"),(.str "pieces")])),(("like" : Str),(.tup [(.str "day"),(.str "by"),(.str "matters"),(.str "stretch"),(.str "whom"),(.str "of"),(.str "changes")])),(("copy" : Str),(.tup [(.str "day"),(.str "by"),(.str "of")])),(("call" : Str),(.tup [(.str "day"),(.str "by"),(.str "of")]))]
noncomputable def eB:D:=(.tup [(.str "by"),(.str "person"),(.str "whom")])
noncomputable def C6:D:=(.tup [(.str "open"),(.str "first"),(.str "last")])
noncomputable def iE:D:=(.tup [(.str "chosen"),(.str "heir"),(.str "leave"),(.str "paper"),(.str "like"),(.str "copy"),(.str "call")])
def rS:FS :=
  (aE (ie (fA bi (fV 0 (ag (fC (.ty "int")) aj))) (ie (Mt (fA bi (fV 0 (ag (fC (.ty "bool")) aj)))) (i7 qQ qQ (am 1) (am 0) (am 2)))))
def gg:=aD rS 3 0
def zt:FS :=
  (aE (fA gg (fV 0 (ag (fI 0) (ag (fC rR) aj)))))
def iF:=aD zt 1 0
def np:FS :=
  (a8 (cN (dQ (bU (aT (fA bi (fV 0 (ag (fC (.ty "tuple")) aj))))) (dQ (aT (f2 xa (fA dR (fV 0 aj)) (fI 2))) (bU (aT (fA iF (ag (cj 0 0) aj)))))) (aE (fC (.bl false))) aP)
  (aE (Ft (f2 As (cj 0 1) (fC .non)) (ie (fA iF (ag (cj 0 1) aj)) (f2 AJ (cj 0 0) (cj 0 1))))))
def nq:=aD np 1 0
def nu:FS :=
  (aE (fA gg (fV 0 (ag (fI 1) (ag (fC lQ) aj)))))
def nv:=aD nu 1 0
def vy:FS :=
  (a8 (cN (dQ (bU (aT (fA bi (fV 0 (ag (fC (.ty "str")) aj))))) (bU (aT (i7 qQ qQ (fI 1) (fA dR (fV 0 aj)) (fC kT))))) (aE (fC (.bl false))) aP)
  (aE (fA yB (ag (bO (bM (am 0)) 1 [] (cU 0) fR (i7 qQ qQ (fS "a") (am 0) (fS "z"))) aj))))
def lC:=aD vy 1 0
def vz:FS :=
  (aE (ie (fA bi (fV 0 (ag (fC (.ty "str")) aj))) (f2 DC (am 0) (fC C6))))
def v0:=aD vz 1 0
def rT:FS :=
  (aE (fA lC (fV 0 aj)))
def mr:=aD rT 1 0
def pz:FS :=
  (a8 (cN (dQ (bU (aT (fA bi (fV 0 (ag (fC (.ty "tuple")) aj))))) (bU (aT (i7 qQ qQ (fI 1) (fA dR (fV 0 aj)) (fC jk))))) (aE (fC (.bl false))) aP)
  (aE (fA yB (ag (bO (bM (am 0)) 1 [] (cU 0) fR (fA mr (fV 0 aj))) aj))))
def p0:=aD pz 1 0
def p4:FS :=
  (a8 (cN (dQ (bU (aT (fA bi (fV 0 (ag (fC (.ty "tuple")) aj))))) (aT (f2 xa (fA dR (fV 0 aj)) (fI 2)))) (aE (fC (.bl false))) aP)
  (aE (ie (fA gg (ag (cj 0 0) (ag (fI 0) (ag (f2 qL (fC jk) (fI 1)) aj)))) (fA mr (ag (cj 0 1) aj)))))
def p5:=aD p4 1 0
def nw:FS :=
  (a8 (cN (dQ (bU (aT (fA bi (fV 0 (ag (fC (.ty "tuple")) aj))))) (bU (aT (fA yB (ag (bO (bM (am 0)) 1 [] (cU 0) fR (fA p5 (fV 0 aj))) aj))))) (aE (fC (.bl false))) aP)
  (a8 (ba 1 (bO (bM (am 0)) 1 [] (cU 0) fR (cj 0 0)))
  (aE (fA yB (ag (bO (FI (am 1) (tT (am 1) (dI (fI 1)) fF)) 2 [] (DG [0,1]) fR (f2 AJ (am 0) (am 1))) aj)))))
def ny:=aD nw 1 1
def wa:FS :=
  (a8 (cN (dQ (aT (f2 dj (am 0) (fS "day"))) (aT (f2 dj (am 0) (fS "since")))) (aE (fA iF (fV 1 aj))) aP)
  (a8 (cN (dQ (aT (f2 dj (am 0) (fS "office"))) (dQ (aT (f2 dj (am 0) (fS "by"))) (aT (f2 dj (am 0) (fS "person"))))) (aE (fA lC (fV 1 aj))) aP)
  (a8 (cN (aT (f2 dj (am 0) (fS "whom"))) (aE (Ft (f2 As (am 1) (fC .non)) (fA lC (fV 1 aj)))) aP)
  (a8 (cN (aT (f2 dj (am 0) (fS "matters"))) (aE (fA nv (fV 1 aj))) aP)
  (a8 (cN (aT (f2 dj (am 0) (fS "stretch"))) (aE (fA nq (fV 1 aj))) aP)
  (a8 (cN (aT (f2 dj (am 0) (fS "further"))) (aE (fA gg (fV 1 (ag (fI 0) (ag (fC kR) aj))))) aP)
  (a8 (cN (aT (f2 dj (am 0) (fS "rule"))) (aE (fA v0 (fV 1 aj))) aP)
  (a8 (cN (aT (f2 dj (am 0) (fS "of"))) (aE (fA gg (fV 1 (ag (fI 0) (ag (f2 qL (fC iW) (fI 1)) aj))))) aP)
  (a8 (cN (aT (f2 dj (am 0) (fS "pieces"))) (aE (fA p0 (fV 1 aj))) aP)
  (aE (fA ny (fV 1 aj))))))))))))
def ir:=aD wa 2 0
def wb:FS :=
  (a8 (cN (dQ (bU (aT (fA bi (fV 0 (ag (fC (.ty "tuple")) aj))))) (dQ (aT (f2 dj (fA dR (fV 0 aj)) (fI 0))) (bU (aT (fA bi (ag (cj 0 0) (ag (fC (.ty "str")) aj))))))) (aE (fC (.bl false))) aP)
  (a8 (cN (dQ (aT (f1 (qV bQ) (cj 0 0))) (aT (f2 xa (fA dR (fV 0 aj)) (f2 fw (fI 1) (fA dR (ag (f1 (mh bQ) (cj 0 0)) aj)))))) (aE (fC (.bl false))) aP)
  (aE (fA yB (ag (bO (FI (f1 (mh bQ) (cj 0 0)) (tT (am 0) (dI (fI 1)) fF)) 2 [] (DG [0,1]) fR (fA ir (fV 0 (fV 1 aj)))) aj)))))
def oF:=aD wb 1 0
def wc:FS :=
  (aE (f2 bK (cj 0 1) (fI 0)))
def a9:=aD wc 1 0
def we:FS :=
  (aE (f2 bK (cj 0 1) (f2 fw (fI 1) (f2 (mo bQ) (fA a9 (fV 0 aj)) (am 1)))))
def au:=aD we 2 0
def zu:FS :=
  (a8 (cN (aT (f2 dj (fA a9 (fV 0 aj)) (fS "root"))) (aE (fC .non)) aP)
  (aE (fA au (fV 0 (ag (fS "day") aj)))))
def aQ:=aD zu 1 0
def p6:FS :=
  (a8 (ba 1 (fA aQ (fV 0 aj)))
  (a8 (cN (aT (f2 As (am 1) (fC .non))) (aE (fC (.bl true))) aP)
  (a8 (cN (eU (aT (f2 dj (fA a9 (fV 0 aj)) (fS "chosen"))) (aT (f2 AJ (fA au (fV 0 (ag (fS "since") aj))) (am 1)))) (aE (fC (.bl false))) aP)
  (aE (f2 qQ (am 1) (cj 0 0))))))
def kU:=aD p6 1 1
def zv:FS :=
  (a8 (cN (dQ (bU (aT (fA bi (fV 0 (ag (fC (.ty "tuple")) aj))))) (aT (f2 xa (fA dR (fV 0 aj)) (fI 2)))) (aE (fC (.bl false))) aP)
  (aE (ie (fA iF (ag (cj 0 0) aj)) (ie (fA oF (ag (cj 0 1) aj)) (fA kU (fV 0 aj))))))
def rV:=aD zv 1 0
def kW:FS :=
  (aE (bO (bM (am 0)) 1 [] (cU 0) (aT (f2 dj (fA a9 (fV 0 aj)) (fS "root"))) (fA au (fV 0 (ag (fS "office") aj)))))
def iG:=aD kW 1 0
def j8:FS :=
  (aE (ie (f2 dj (fA a9 (fV 1 aj)) (fS "root")) (f2 DC (fA au (fV 1 (ag (fS "office") aj))) (fA iG (fV 0 aj)))))
def gh:=aD j8 2 0
def rW:FS :=
  (aE (T7 (f1 (mh bQ) (fA a9 (fV 0 aj))) (tT (cj 0 1) (dI (fI 1)) fF)))
def gm:=aD rW 1 0
def p7:FS :=
  (a8 (ba 1 (bO (bM (fA gm (fV 0 aj))) 2 [] (DG [0,1]) (eU (aT (f2 DC (am 0) (fC eB))) (aT (f2 jI (am 1) (fC .non)))) (am 1)))
  (aE (f1 fJ (am 1))))
def gO:=aD p7 1 1
def kg:FS :=
  (FK 1 (fA gO (fV 2 aj)))
def kX:FS :=
  (a8 (ba 1 (fA cx aj))
  (a8 (kx (bM (am 0)) (cU 2) kg)
  (aE (f1 mU (am 1)))))
def iH:=aD kX 1 2
def nA:FS :=
  (a8 (cN (dQ (aT (f2 Q3 (am 1) (fC iW))) (bU (aT (fA rV (ag (f2 bK (am 0) (am 1)) aj))))) (aE (fC (.bl true))) aP)
  (aE (Ft (fA gh (ag (tT (am 0) fF (dI (am 1))) (ag (f2 bK (am 0) (am 1)) aj))) (f2 EC (fA iH (ag (tT (am 0) fF (dI (f2 fw (am 1) (fI 1)))) aj)) (fC lR)))))
def jQ:=aD nA 2 0
def kY:FS :=
  (cN (aT (fA jQ (fV 1 (fV 2 aj)))) AR aP)
def lS:FS :=
  (a8 (cN (bU (aT (fA xE (fV 0 (ag (fA aX (ag (fC (.ty "list")) (ag (fC (.ty "tuple")) aj))) aj))))) AR aP)
  (a8 (ba 1 (fA iB (fV 0 aj)))
  (a8 (ph (md (fA dR (fV 1 aj))) (cU 2) kY)
  (hG 1))))
def jl:=aD lS 1 2
def p8:FS :=
  (a8 (cN (aT (f2 AJ (am 1) (fA dR (fV 0 aj)))) (aE (f2 bK (am 0) (am 1))) aP)
  (aE (fI 0)))
def bZ:=aD p8 2 0
def p9:FS :=
  (a8 (ba 4 (f2 cq (f2 fw (f2 fw (f2 fw (f2 AI (am 4) (am 4)) (f2 AI (fI 48271) (am 4))) (am 5)) (am 1)) (fI 2147483647)))
  (mL 3 (am 4)))
def rX:FS :=
  (a8 (ba 3 (fA cx aj))
  (a8 (ba 4 (f2 cq (f2 fw (f2 fw (f2 AI (f2 cq (am 0) (fI 2147483647)) (fI 48271)) (f2 AI (f2 AI (am 1) (am 1)) (fI 69621))) (fI 11)) (fI 2147483647)))
  (a8 (ph (md (am 2)) (cU 5) p9)
  (hG 3))))
def fy:=aD rX 3 3
def pA:FS :=
  (a8 (ba 1 (f2 cq (am 0) (fI 4)))
  (a8 (cN (aT (f2 dj (f2 cq (f2 mP (am 0) (fI 4)) (fI 2)) (fI 0))) (aE (fA aX (fV 1 (ag (fC .non) aj)))) aP)
  (aE (fA aX (fV 1 (ag (f2 fw (f2 fw (am 1) (fI 1)) (f2 cq (f2 mP (am 0) (fI 8)) (fI 9))) aj))))))
def iX:=aD pA 1 1
def zw:FS :=
  (a8 (ba 3 (fA cx (ag (fS "ann") (ag (fS "bob") (ag (fS "cid") (ag (fS "dan") aj))))))
  (a8 (ba 4 (f2 bK (am 3) (f2 cq (f2 cq (cj 0 2) (fI 5)) (fI 4))))
  (a8 (ba 5 (f2 bK (am 3) (f2 cq (cj 0 3) (fI 4))))
  (a8 (ba 6 (fA iX (ag (cj 0 5) aj)))
  (a8 (ba 7 (fA F0 (ag (fI 0) (ag (f2 qL (f2 qL (am 1) (fI 1)) (f2 cq (cj 0 6) (fI 4))) aj))))
  (a8 (ba 8 (f2 bK (fA cx (ag (fC .non) (fV 5 aj))) (f2 cq (cj 0 7) (fI 2))))
  (a8 (ba 9 (f2 cq (cj 0 1) (fI 12)))
  (a8 (cN (aT (f2 AJ (am 9) (fI 2))) (aE (fA aX (ag (fS "leave") (fV 2 (fV 4 (fV 5 (ag (f2 bK (fA cx (ag (fI 1) (ag (fI 3) (ag (fI 7) aj)))) (f2 cq (cj 0 4) (fI 3))) (fV 6 (ag (f2 cq (cj 0 7) (fI 4)) aj))))))))) aP)
  (a8 (cN (aT (f2 AJ (am 9) (fI 6))) (aE (fA aX (ag (fS "paper") (fV 2 (fV 4 (ag (fI 1) (fV 6 (fV 8 (ag (tT (fA aX (ag (fS "aa") (ag (fS "b") (ag (fS "cc") aj)))) fF (dI (f2 fw (fI 1) (f2 cq (f2 mP (cj 0 7) (fI 2)) (fI 3))))) aj))))))))) aP)
  (a8 (cN (aT (f2 AJ (am 9) (fI 8))) (aE (fA aX (ag (fS "like") (fV 2 (fV 4 (ag (fI 1) (fV 6 (fV 8 (fV 7 (ag (fA aX (ag (fA aX (ag (f2 cq (cj 0 4) (fI 3)) (ag (fS "d") aj))) aj)) aj)))))))))) aP)
  (a8 (cN (aT (f2 AJ (am 9) (fI 10))) (aE (fA aX (ag (fS "copy") (fV 2 (fV 4 (fV 7 aj)))))) aP)
  (a8 (cN (aT (f2 dj (am 9) (fI 10))) (aE (fA aX (ag (fS "call") (fV 2 (fV 4 (fV 7 aj)))))) aP)
  (aE (fA aX (ag (f2 bK (fA cx (ag (fS "lost") (ag (fS "found") (ag (fS "death") aj)))) (f2 cq (cj 0 7) (fI 3))) (fV 2 (fV 5 aj)))))))))))))))))
def rY:=aD zw 3 7
def lD:FS :=
  (a8 (ba 5 (fA fy (fV 4 (ag (fA dR (fV 2 aj)) (ag (fI 9) aj)))))
  (a8 (ba 6 (f2 cq (cj 5 0) (fI 10)))
  (a8 (ba 7 (f2 fw (am 6) (f2 bK (fA cx (ag (fI 0) (ag (fI 0) (ag (fI 0) (ag (f2 cq (f2 mP (cj 5 0) (fI 10)) (fI 5)) aj))))) (f2 cq (f2 mP (cj 5 0) (fI 50)) (fI 4)))))
  (mL 2 (fA aX (fV 7 (ag (fA rY (fV 5 (ag (fA dR (fV 2 aj)) (fV 6 aj)))) aj)))))))
def zx:FS :=
  (a8 (ba 1 (fA bZ (fV 0 (ag (fI 0) aj))))
  (a8 (ba 2 (fA cx (ag (fA aX (ag (fI 0) (ag (fA aX (ag (fS "root") (ag (fS "king") (ag (fI 7) (ag (fI 3) (ag (fS "open") aj)))))) aj))) (ag (fA aX (ag (fI 0) (ag (fA aX (ag (fS "named") (ag (fI 0) (ag (fS "king") (ag (fS "ann") aj))))) aj))) aj))))
  (a8 (cN (aT (f2 dj (f2 cq (am 1) (fI 3)) (fI 0))) (ba 2 (f2 fw (am 2) (fA cx (ag (fA aX (ag (fI 0) (ag (fA aX (ag (fS "root") (ag (fS "abbot") (ag (fI 3) (ag (fI 1) (ag (fS "first") aj)))))) aj))) (ag (fA aX (ag (fI 1) (ag (fA aX (ag (fS "named") (ag (fI 1) (ag (fS "abbot") (ag (fS "bob") aj))))) aj))) aj))))) aP)
  (a8 (ba 3 (tT (am 0) (dI (fI 2)) (dI (fI 11))))
  (a8 (cN (aT (f2 dj (f2 cq (fA bZ (fV 0 (ag (fI 1) aj))) (fI 4)) (fI 1))) (ba 3 (f2 fw (am 3) (fA fy (ag (fA bZ (fV 0 (ag (fI 1) aj))) (ag (fI 92) (ag (f2 qL (fI 9) (fA dR (fV 3 aj))) aj)))))) aP)
  (a8 (Jf [3] (kx (bM (am 3)) (cU 4) lD))
  (hG 2)))))))
def rZ:=aD zx 1 7
def sd:FS :=
  (aE (ie (i7 qQ AJ (fI 0) (am 2) (fA dR (fV 0 aj))) (f2 qQ (f2 bK (f2 bK (am 0) (am 2)) (fI 0)) (am 1))))
def cA:=aD sd 3 0
def se:FS :=
  (aE (ie (fA cA (fV 0 (fV 1 (fV 2 aj)))) (f2 DC (fA a9 (ag (f2 bK (am 0) (am 2)) aj)) (fC zr))))
def cB:=aD se 3 0
def wg:FS :=
  (aE (f2 Cs (f2 Cs (tT (am 0) fF (dI (am 1))) (fA aX (fV 2 aj))) (tT (am 0) (dI (f2 fw (am 1) (fI 1))) fF)))
def oG:=aD wg 3 0
def cI:FS :=
  (a8 (cN (aT (f2 EC (am 4) (fA dR (fV 2 aj)))) (aE (fA aX (ag (fS "beyond") (fV 3 aj)))) aP)
  (ba 2 (fA oG (fV 2 (fV 4 (fV 5 aj))))))
def bq:FS :=
  (a8 (cN (aT (f2 xa (fA a9 (ag (f2 bK (am 0) (am 3)) aj)) (fS "like"))) Cc aP)
  (Jf [3] (kx (bM (fA au (ag (f2 bK (am 0) (am 3)) (ag (fS "changes") aj)))) (DG [4,5]) cI)))
def kZ:FS :=
  (a8 (ba 2 (fA au (ag (f2 bK (am 0) (f2 bK (am 1) (f1 y8 (fI 1)))) (ag (fS "pieces") aj))))
  (a8 (kx (JD (am 1)) (cU 3) bq)
  (aE (fA aX (ag (fS "words") (fV 2 aj))))))
def iI:=aD kZ 2 4
def j9:FS :=
  (a8 (cN (bU (aT (fA cB (fV 0 (fV 1 (fV 4 aj)))))) (aE (fA aX (ag (fS "lacks") (fV 4 aj)))) aP)
  (a8 (mL 3 (am 4))
  (a8 (cN (aT (f2 dj (fA a9 (ag (f2 bK (am 0) (am 4)) aj)) (fS "paper"))) (aE (fA iI (fV 0 (fV 3 aj)))) aP)
  (ba 4 (fA au (ag (f2 bK (am 0) (am 4)) (ag (fS "of") aj)))))))
def C7:FS :=
  (a8 (ba 3 (fA cx aj))
  (a8 (ba 4 (am 2))
  (a8 (cO (aT (f2 df (am 4) (am 3))) j9 1000)
  (aE Gz))))
def lE:=aD C7 3 2
def wh:FS :=
  (aE (ie (f2 qQ (cj 1 0) (am 0)) (Ft (f2 As (cj 1 1) (fC .non)) (f2 AJ (am 0) (cj 1 1)))))
def gn:=aD wh 2 0
def C8:FS :=
  (aE (bO (FM (am 0)) 2 [1] (DG [0,1]) (aT (f2 qQ (cj 1 0) (am 2))) (am 0)))
def cE:=aD C8 2 0
def GF:FS :=
  (aE (fA aX (ag (fA aQ (ag (f2 bK (am 0) (am 1)) aj)) (fV 1 aj))))
def fz:=aD GF 2 0
def sf:FS :=
  (a8 (ba 2 (bO (bM (fA cE (fV 0 (fV 1 aj)))) 1 [0] (cU 0) (aT (f2 jI (fA aQ (ag (f2 bK (am 1) (am 0)) aj)) (fC .non))) (am 0)))
  (aE (rq (am 2) (rm [0] (fA fz (fV 1 (fV 0 aj)))))))
def eC:=aD sf 2 1
def pB:FS :=
  (aE (fA aX (ag (cj 0 0) (ag (cj 0 2) (ag (cj 0 4) aj)))))
def gP:=aD pB 1 0
def C9:FS :=
  (a8 (ba 2 (bO (bM (fA cE (fV 0 (fV 1 aj)))) 1 [0] (cU 0) fR (f2 bK (am 1) (am 0))))
  (aE (fA jO (ag (bO (bM (am 2)) 1 [] (cU 0) (aT (f2 dj (fA a9 (fV 0 aj)) (fS "root"))) (fA aX (ag (fA au (fV 0 (ag (fS "office") aj))) (fV 0 aj)))) aj))))
def gJ:=aD C9 2 1
def CA:FS :=
  (aE (ie (f2 DC (fA a9 (fV 0 aj)) (am 1)) (ie (f2 dj (fA au (fV 0 (ag (fS "person") aj))) (am 2)) (f2 qQ (fA aQ (fV 0 aj)) (am 3)))))
def qu:=aD CA 4 0
def wj:FS :=
  (aE (bO (bM (fA cE (fV 0 (fV 1 aj)))) 1 [2,3,4,0] (cU 0) (aT (fA qu (ag (f2 bK (am 4) (am 0)) (fV 1 (fV 2 (fV 3 aj)))))) (am 0)))
def iu:=aD wj 5 0
def CB:FS :=
  (aE (f2 dj (fA dR (ag (fA iu (fV 0 (fV 1 (ag (fA aX (ag (fS "death") aj)) (fV 2 (fV 3 aj)))))) aj)) (fI 0)))
def qw:=aD CB 4 0
def sg:FS :=
  (a8 (ba 4 (fA iu (fV 0 (fV 1 (ag (fA aX (ag (fS "lost") (ag (fS "found") aj))) (fV 2 (fV 3 aj)))))))
  (a8 (cN (aT (f2 dj (fA dR (fV 4 aj)) (fI 0))) (aE (fC (.bl true))) aP)
  (aE (f2 dj (fA a9 (ag (f2 bK (am 0) (vj (am 4) (rm [0] (fA fz (fV 1 (fV 0 aj)))))) aj)) (fS "found")))))
def ms:=aD sg 4 1
def si:FS :=
  (a8 (cN (dQ (bU (aT (fA cA (fV 0 (fV 1 (fV 2 aj)))))) (aT (f2 df (fA a9 (ag (f2 bK (am 0) (am 2)) aj)) (fC iE)))) (aE (fC (.bl false))) aP)
  (a8 (ba 3 (fA au (ag (f2 bK (am 0) (am 2)) (ag (fS "by") aj))))
  (a8 (ba 4 (fA aQ (ag (f2 bK (am 0) (am 2)) aj)))
  (aE (ie (fA qw (fV 0 (fV 1 (fV 3 (fV 4 aj))))) (fA ms (fV 0 (fV 1 (fV 3 (fV 4 aj))))))))))
def gp:=aD si 3 2
def sj:FS :=
  (aE (fA gn (fV 1 (ag (fA aX (ag (cj 0 2) (ag (cj 0 3) aj))) aj))))
def cS:=aD sj 2 0
def sk:FS :=
  (aE (fA aX (ag (cj 0 2) (ag (cj 0 4) aj))))
def dB:=aD sk 1 0
def sn:FS :=
  (a8 (cN (aT (f2 dj (am 1) (fS "last"))) (aE (f2 bK (vj (am 0) (uh dB)) (fI 1))) aP)
  (aE (f2 bK (vk (am 0) (uh dB)) (fI 1))))
def mu:=aD sn 2 0
def pC:FS :=
  (a8 (ba 3 (bO (bM (am 0)) 1 [2,1] (cU 0) (eU (aT (f2 dj (cj 0 0) (fA au (fV 2 (ag (fS "office") aj))))) (aT (fA cS (fV 0 (fV 1 aj))))) (am 0)))
  (a8 (ba 4 (f1 fJ (bO (bM (am 3)) 1 [] (cU 0) fR (cj 0 1))))
  (a8 (cN (aT (f2 dj (fA dR (fV 4 aj)) (fI 0))) (aE (fA aX (ag (fS "none") aj))) aP)
  (a8 (cN (eU (aT (f2 EC (fA dR (fV 4 aj)) (fI 1))) (aT (f2 dj (fA au (fV 1 (ag (fS "rule") aj))) (fS "open")))) (aE (fA aX (ag (fS "parted") (fV 4 aj)))) aP)
  (a8 (ba 5 (fA mu (fV 3 (ag (fA au (fV 1 (ag (fS "rule") aj))) aj))))
  (a8 (ba 6 (vk (bO (bM (am 3)) 1 [5] (cU 0) (aT (f2 dj (cj 0 1) (am 1))) (am 0)) (uh dB)))
  (aE (fA aX (ag (fS "one") (fV 5 (ag (cj 6 4) aj)))))))))))
def eE:=aD pC 3 4
def nB:FS :=
  (aE (f2 dj (tT (fA eE (fV 0 (fV 1 (fV 3 aj)))) fF (dI (fI 2))) (fA aX (ag (fS "one") (fV 2 aj)))))
def dC:=aD nB 4 0
def jA:FS :=
  (a8 (ba 3 (f2 bK (am 0) (am 2)))
  (a8 (ba 4 (fA iu (fV 0 (fV 1 (ag (fA aX (ag (fS "death") aj)) (ag (fA au (fV 3 (ag (fS "person") aj))) (ag (fA aQ (fV 3 aj)) aj)))))))
  (aE (f2 dj (vk (am 4) (rm [0] (fA fz (fV 1 (fV 0 aj))))) (am 2)))))
def gs:=aD jA 3 2
def zy:FS :=
  (a8 (ba 4 (f2 bK (am 0) (am 3)))
  (a8 (cN (aT (f2 dj (fA a9 (fV 4 aj)) (fS "death"))) (aE (fA gs (fV 0 (fV 1 (fV 3 aj))))) aP)
  (a8 (cN (aT (f2 df (fA a9 (fV 4 aj)) (fA aX (ag (fS "named") (ag (fS "chosen") (ag (fS "heir") aj)))))) (aE (fC (.bl false))) aP)
  (a8 (ba 5 (f2 Gj (fA gJ (fV 0 (fV 1 aj))) (fA au (fV 4 (ag (fS "office") aj)))))
  (a8 (cN (aT (f2 As (am 5) (fC .non))) (aE (fC (.bl false))) aP)
  (a8 (cN (aT (f2 dj (fA a9 (fV 4 aj)) (fS "named"))) (aE (fC (.bl true))) aP)
  (aE (ie (fA gp (fV 0 (fV 1 (fV 3 aj)))) (fA dC (fV 2 (fV 5 (ag (fA au (fV 4 (ag (fS "by") aj))) (ag (fA aQ (fV 4 aj)) aj)))))))))))))
def nD:=aD zy 4 2
def pD:FS :=
  (aE (fA aX (ag (fA au (fV 0 (ag (fS "office") aj))) (ag (fA au (fV 0 (ag (fS "person") aj))) (fV 1 (ag (fC .non) (fV 2 aj)))))))
def iY:=aD pD 3 0
def sq:FS :=
  (cN (dQ (aT (f2 df (cj 5 0) (am 1))) (dQ (aT (f2 xa (cj 5 1) (am 2))) (bU (dQ (aT (fA cS (fV 5 (fV 3 aj)))) (aT (f2 EC (cj 5 2) (am 3))))))) (mL 4 (am 5)) (cN (aT (f2 AJ (cj 5 2) (am 3))) (mL 4 (fA aX (ag (cj 5 0) (fV 2 (ag (cj 5 2) (fV 3 (ag (cj 5 4) aj))))))) aP))
def CC:FS :=
  (a8 (ba 4 (fA cx aj))
  (a8 (kx (bM (am 0)) (cU 5) sq)
  (hG 4)))
def xM:=aD CC 4 2
def nE:FS :=
  (a8 (ba 9 (G1 (am 3) (fV 8 (fV 5 aj))))
  (cN (eU (aT (f2 jI (am 9) (fC .non))) (aT (fA qw (fV 0 (fV 1 (fV 9 (fV 6 aj))))))) (mL 7 (fA aX (fV 8 (fV 9 (fV 6 (ag (fC .non) (fV 4 aj))))))) aP))
def pF:FS :=
  (a8 (ba 5 (fA au (ag (f2 bK (am 0) (am 4)) (ag (fS "person") aj))))
  (a8 (ba 6 (fA aQ (ag (f2 bK (am 0) (am 4)) aj)))
  (a8 (ba 7 (fA cx aj))
  (a8 (Jf [5,6] (kx (bM (f1 fJ (bO (bM (am 2)) 1 [5,6] (cU 0) (eU (aT (f2 dj (cj 0 1) (am 1))) (aT (fA cS (fV 0 (fV 2 aj))))) (cj 0 0)))) (cU 8) nE))
  (hG 7)))))
def la:=aD pF 5 5
def lU:FS :=
  (a8 (ba 5 (bO (bM (am 2)) 1 [] (cU 0) fR (cj 0 0)))
  (a8 (ba 6 (fA xM (fV 2 (fV 5 (ag (fA au (ag (f2 bK (am 0) (am 4)) (ag (fS "person") aj))) (ag (fA aQ (ag (f2 bK (am 0) (am 4)) aj)) aj))))))
  (aE (f2 fw (am 6) (fA la (fV 0 (fV 1 (fV 2 (fV 3 (fV 4 aj))))))))))
def jm:=aD lU 5 2
def lF:FS :=
  (a8 (ba 5 (f2 bK (am 0) (am 4)))
  (a8 (cN (bU (aT (fA nD (fV 0 (fV 1 (fV 2 (fV 4 aj))))))) Cc aP)
  (cN (aT (f2 dj (fA a9 (fV 5 aj)) (fS "named"))) (ba 2 (f2 fw (am 2) (fA cx (ag (fA iY (fV 5 (ag (fA aQ (fV 5 aj)) (fV 4 aj)))) aj)))) (cN (aT (f2 dj (fA a9 (fV 5 aj)) (fS "chosen"))) (ba 2 Gz) (cN (aT (f2 dj (fA a9 (fV 5 aj)) (fS "heir"))) (Cz 3 (ag (fA au (fV 5 (ag (fS "office") aj))) (ag (fA au (fV 5 (ag (fS "by") aj))) aj)) (fA au (fV 5 (ag (fS "person") aj)))) (ba 2 (fA jm (fV 0 (fV 1 (fV 2 (fV 3 (fV 4 aj))))))))))))
def z4:FS :=
  (a8 (ba 2 (fA cx aj))
  (a8 (Gm 3)
  (a8 (kx (bM (fA eC (fV 0 (fV 1 aj)))) (cU 4) lF)
  (aE (rq (am 2) (uh gP))))))
def sr:=aD z4 2 4
def su:FS :=
  (aE (ie (fA cA (fV 0 (fV 1 (fV 2 aj)))) (f2 dj (fA a9 (ag (f2 bK (am 0) (am 2)) aj)) (fS "leave"))))
def gt:=aD su 3 0
def sv:FS :=
  (aE (Ft (fA gt (fV 0 (fV 1 (fV 2 aj)))) (fA cB (fV 0 (fV 1 (fV 2 aj))))))
def eF:=aD sv 3 0
def sw:FS :=
  (aE (f2 dj (f2 ON (am 0) (am 1)) (am 1)))
def iJ:=aD sw 2 0
def pG:FS :=
  (a8 (cN (bU (aT (fA iJ (ag (fA au (fV 1 (ag (fS "matters") aj))) (ag (fA au (fV 0 (ag (fS "matters") aj))) aj))))) (aE (fS "matters")) aP)
  (a8 (cN (eU (aT (f2 dj (fA a9 (fV 0 aj)) (fS "leave"))) (aT (f2 Q3 (fA au (fV 0 (ag (fS "further") aj))) (fA au (fV 1 (ag (fS "further") aj)))))) (aE (fS "further")) aP)
  (aE (fC .non))))
def iZ:=aD pG 2 0
def nF:FS :=
  (a8 (cN (bU (aT (fA dC (fV 0 (fV 2 (ag (fA au (fV 1 (ag (fS "by") aj))) (ag (fA aQ (fV 1 aj)) aj))))))) (aE (fS "holder")) aP)
  (aE (fA iZ (fV 1 (fV 2 aj)))))
def ii:=aD nF 3 0
def lb:FS :=
  (a8 (ba 4 (f2 bK (am 0) (am 3)))
  (a8 (ba 5 (bO (rG (fA gJ (fV 0 (fV 1 aj)))) 1 [2,4] (cU 0) (aT (f2 As (fA ii (fV 1 (fV 2 (fV 0 aj)))) (fC .non))) (am 0)))
  (aE (bO (bM (am 5)) 1 [2,4] (cU 0) fR (fA aX (ag (fS "office") (ag (fA au (fV 0 (ag (fS "office") aj))) (ag (f2 bK (fA eE (fV 1 (fV 0 (ag (fA aQ (fV 2 aj)) aj)))) (fI 2)) aj))))))))
def iK:=aD lb 4 2
def lV:FS :=
  (a8 (cN (aT (f2 As (am 1) (fC .non))) (aE (fC (.bl true))) aP)
  (aE (ie (f2 jI (am 0) (fC .non)) (f2 qQ (am 0) (am 1)))))
def jn:=aD lV 2 0
def pH:FS :=
  (aE (ie (f2 qQ (cj 1 0) (cj 0 0)) (fA jn (ag (cj 0 1) (ag (cj 1 1) aj)))))
def ja:=aD pH 2 0
def sy:FS :=
  (aE (f2 L6 (fA fz (fV 0 (fV 1 aj))) (fA fz (fV 0 (fV 2 aj)))))
def gu:=aD sy 3 0
def pJ:FS :=
  (a8 (ba 3 (f2 bK (am 0) (am 1)))
  (a8 (ba 4 (fA au (ag (f2 bK (am 0) (am 2)) (ag (fS "stretch") aj))))
  (a8 (cN (bU (aT (fA gu (fV 0 (fV 2 (fV 1 aj)))))) (aE (fS "order")) aP)
  (a8 (cN (dQ (bU (aT (fA gn (ag (fA aQ (fV 3 aj)) (fV 4 aj))))) (bU (aT (fA ja (ag (fA au (fV 3 (ag (fS "stretch") aj))) (fV 4 aj)))))) (aE (fS "days")) aP)
  (aE (fA iZ (fV 3 (ag (f2 bK (am 0) (am 2)) aj))))))))
def jb:=aD pJ 3 2
def pK:FS :=
  (a8 (ba 3 (bO (bM (fA cE (fV 0 (fV 1 aj)))) 1 [0,1] (cU 0) (aT (fA gt (fV 1 (fV 2 (fV 0 aj))))) (am 0)))
  (aE (bO (bM (am 3)) 1 [2,0] (cU 0) (aT (f2 dj (fA au (ag (f2 bK (am 2) (am 0)) (ag (fS "person") aj))) (am 1))) (am 0))))
def lf:=aD pK 3 1
def lW:FS :=
  (a8 (ba 3 (fA lf (fV 0 (fV 1 (ag (fA au (ag (f2 bK (am 0) (am 2)) (ag (fS "by") aj))) aj)))))
  (aE (bO (bM (am 3)) 1 [0,2] (cU 0) (aT (f2 As (fA jb (fV 1 (fV 2 (fV 0 aj)))) (fC .non))) (fA aX (ag (fS "leave") (fV 0 aj))))))
def jo:=aD lW 3 1
def nG:FS :=
  (a8 (ba 3 (fA au (ag (f2 bK (am 0) (am 2)) (ag (fS "of") aj))))
  (a8 (cN (eU (aT (fA cB (fV 0 (fV 1 (fV 3 aj))))) (aT (fA gu (fV 0 (fV 3 (fV 2 aj)))))) (aE (fA cx (ag (fA aX (ag (fS "copy") (fV 3 aj))) aj))) aP)
  (aE (fA cx aj))))
def jR:=aD nG 3 1
def sA:FS :=
  (a8 (cN (bU (aT (fA eF (fV 0 (fV 1 (fV 3 aj)))))) (aE (fA cx aj)) aP)
  (a8 (cN (aT (f2 dj (fA a9 (ag (f2 bK (am 0) (am 3)) aj)) (fS "copy"))) (aE (fA jR (fV 0 (fV 1 (fV 3 aj))))) aP)
  (a8 (ba 4 (f2 fw (fA iK (fV 0 (fV 1 (fV 2 (fV 3 aj))))) (fA jo (fV 0 (fV 1 (fV 3 aj))))))
  (aE (Bk (am 4) (rm [] (fA aX (ag (f2 bK (am 0) (f1 y8 (fI 1))) (fV 0 aj)))))))))
def fB:=aD sA 4 1
def sC:FS :=
  (a8 (ba 5 (f2 bK (am 0) (am 4)))
  (a8 (ba 6 (fA au (ag (f2 bK (am 0) (am 3)) (ag (fS "by") aj))))
  (a8 (cN (aT (f2 dj (am 6) (fA au (fV 5 (ag (fS "by") aj))))) (aE (fC (.bl true))) aP)
  (a8 (cN (aT (f2 dj (fA a9 (fV 5 aj)) (fS "copy"))) (aE (fC (.bl false))) aP)
  (a8 (ba 7 (bO (rG (fA gJ (fV 0 (fV 1 aj)))) 1 [5] (cU 0) (aT (fA iJ (ag (fA au (fV 0 (ag (fS "matters") aj))) (ag (fA au (fV 1 (ag (fS "matters") aj))) aj)))) (am 0)))
  (aE (fA F9 (ag (bO (bM (am 7)) 1 [2,6,0,3] (cU 0) fR (fA dC (fV 1 (fV 0 (fV 2 (ag (fA aQ (ag (f2 bK (am 3) (am 4)) aj)) aj)))))) aj))))))))
def mv:=aD sC 5 3
def sD:FS :=
  (a8 (ba 6 (f2 bK (am 0) (am 3)))
  (a8 (cN (dQ (aT (f2 xa (fA a9 (fV 6 aj)) (fS "call"))) (dQ (aT (f2 xa (fA au (fV 6 (ag (fS "of") aj))) (am 4))) (aT (f2 EC (fA aQ (fV 6 aj)) (am 5))))) (aE (fC (.bl false))) aP)
  (aE (ie (fA gp (fV 0 (fV 1 (fV 3 aj)))) (fA mv (fV 0 (fV 1 (fV 2 (fV 3 (fV 4 aj))))))))))
def jS:=aD sD 6 1
def sE:FS :=
  (a8 (cN (bU (aT (fA eF (fV 0 (fV 1 (fV 3 aj)))))) (aE (fA cx aj)) aP)
  (aE (bO (bM (fA cE (fV 0 (fV 1 aj)))) 1 [0,1,2,3,4] (cU 0) (aT (fA jS (fV 1 (fV 2 (fV 3 (fV 0 (fV 4 (fV 5 aj)))))))) (am 0))))
def mw:=aD sE 5 0
def z5:FS :=
  (a8 (cN (dQ (bU (aT (fA gp (fV 0 (fV 1 (fV 3 aj)))))) (aT (f2 EC (fA aQ (ag (f2 bK (am 0) (am 3)) aj)) (am 4)))) (aE (fC (.bl false))) aP)
  (aE (f2 dj (fA dR (ag (fA mw (fV 0 (fV 1 (fV 2 (fV 3 (fV 4 aj)))))) aj)) (fI 0))))
def nH:=aD z5 5 0
def z6:FS :=
  (cN (eU (aT (fA eF (fV 0 (fV 1 (fV 5 aj))))) (aT (fA nH (fV 0 (fV 1 (fV 3 (fV 5 (fV 2 aj)))))))) (rJ 4 (am 5) (fA fB (fV 0 (fV 1 (fV 3 (fV 5 aj)))))) aP)
def CD:FS :=
  (a8 (yr 3 (fA sr (fV 0 (fV 1 aj))))
  (a8 (Cv 4)
  (a8 (kx (bM (fA eC (fV 0 (fV 1 aj)))) (cU 5) z6)
  (hG 4))))
def xN:=aD CD 3 3
def CF:FS :=
  (aE (Ft (f2 dj (cj 0 0) (fS "office")) (f2 Q7 (cj 0 1) (am 1))))
def nI:=aD CF 2 0
def z7:FS :=
  (cN (aT (fA F9 (ag (bO (bM (am 3)) 1 [1] (cU 0) fR (fA nI (fV 0 (fV 1 aj)))) aj))) (zh 1 (am 2) (fC (.bl true))) aP)
def CG:FS :=
  (a8 (Cv 1)
  (a8 (kx (C2 (am 0)) (DG [2,3]) z7)
  (hG 1)))
def xO:=aD CG 1 3
def sG:FS :=
  (aE (fA j7 (ag (fA xO (ag (fA xN (fV 0 (fV 1 (fV 2 aj)))) aj)) aj)))
def iL:=aD sG 3 0
def gY:FS :=
  (ba 2 (f2 bK (am 0) (fA au (fV 2 (ag (fS "of") aj)))))
def lg:FS :=
  (a8 (ba 2 (f2 bK (am 0) (am 1)))
  (a8 (cO (aT (f2 dj (fA a9 (fV 2 aj)) (fS "copy"))) gY 1000)
  (hG 2)))
def dh:=aD lg 2 1
def wk:FS :=
  (a8 (ba 3 (bO (bM (fA iL (fV 0 (fV 1 (fV 2 aj))))) 1 [0,1] (cU 0) (aT (fA cB (fV 1 (fV 2 (fV 0 aj))))) (am 0)))
  (aE (bO (bM (am 3)) 1 [2,0] (cU 0) (aT (fA gn (fV 1 (ag (fA au (ag (fA dh (fV 2 (fV 0 aj))) (ag (fS "stretch") aj))) aj)))) (am 0))))
def gy:=aD wk 3 1
def wl:FS :=
  (aE (fA au (ag (fA dh (fV 0 (fV 1 aj))) (ag (fS "whom") aj))))
def gz:=aD wl 2 0
def CH:FS :=
  (a8 (cN (aT (f2 df (am 3) (fA gy (fV 0 (fV 1 (fV 2 aj)))))) (aE (fC (.bl false))) aP)
  (aE (Ft (f2 As (am 4) (fC .non)) (f2 DC (fA gz (fV 0 (fV 3 aj))) (fA aX (ag (fC .non) (fV 4 aj)))))))
def nJ:=aD CH 5 0
def z8:FS :=
  (aE (bO (bM (fA gy (fV 0 (fV 1 (fV 2 aj))))) 1 [0,1] (cU 0) fR (fA aX (fV 0 (ag (fA gz (fV 1 (fV 0 aj))) (ag (fA lE (fV 1 (fV 2 (fV 0 aj)))) aj))))))
def nL:=aD z8 3 0
def oH:FS :=
  (ba 2 (f2 bK (f2 bK (f2 bK (am 0) (am 2)) (fI 1)) (fI 3)))
def z9:FS :=
  (a8 (ba 2 (am 1))
  (a8 (cO (aT (f2 dj (f2 bK (f2 bK (f2 bK (am 0) (am 2)) (fI 1)) (fI 0)) (fS "copy"))) oH 1000)
  (aE (f2 bK (f2 bK (f2 bK (am 0) (am 2)) (fI 1)) (fI 5)))))
def nM:=aD z9 2 1
def sJ:FS :=
  (cN (aT (RC nJ (fV 0 (fV 2 (fV 3 (fV 6 aj)))))) (mL 5 (fA aX (fV 6 (ag (fA nM (fV 1 (fV 6 aj))) (ag (fA lE (fV 0 (fV 2 (fV 6 aj)))) aj))))) aP)
def wm:FS :=
  (a8 (ba 4 (fA nL (fV 0 (fV 2 (fV 3 aj)))))
  (a8 (ba 5 (fA cx aj))
  (a8 (ph (md (fA dR (fV 1 aj))) (cU 6) sJ)
  (a8 (cN (dQ (bU (aT (fA bi (fV 4 (ag (fC (.ty "list")) aj))))) (aT (f2 xa (am 4) (am 5)))) (aE (fC (.bl false))) aP)
  (a8 (zk 4 7 (dQ (bU (aT (fA bi (fV 7 (ag (fC (.ty "tuple")) aj))))) (dQ (aT (fA bi (ag (cj 7 0) (ag (fC (.ty "bool")) aj)))) (bU (aT (fA bi (ag (cj 7 2) (ag (fC (.ty "tuple")) aj))))))))
  (a8 (mL 4 (fA aX aj))
  (aE (f2 dj (fA nL (fV 0 (fV 2 (fV 3 aj)))) (am 5)))))))))
def oJ:=aD wm 4 4
def GG:FS :=
  (cN (bU (aT (fA oJ (fV 2 (fV 1 (fV 4 (fV 5 aj))))))) (aE (fC (.bl false))) aP)
def Bn:FS :=
  (Jf [3] (kx (bM (fA cx (ag (f2 cq (cj 3 1) (fI 6)) (ag (f2 fw (fI 5) (f2 cq (cj 3 2) (fI 14))) aj)))) (cU 5) GG))
def Lm:FS :=
  (a8 (ba 1 (fA rZ (fV 0 aj)))
  (a8 (ba 2 (fA jl (fV 1 aj)))
  (a8 (ba 3 (fA fy (ag (fA bZ (fV 0 (ag (fI 1) aj))) (ag (fI 60) (ag (fI 6) aj)))))
  (a8 (Jf [3] (kx (bM (fA cx (ag (fI 9999) (ag (f2 cq (cj 3 0) (fI 12)) aj)))) (cU 4) Bn))
  (aE (fC (.bl true)))))))
def F_law:=aD Lm 1 5
end Lw
namespace DL
open PySem L2
theorem g9:∀(n m:Nat)(d:D),n<=m->aH n d=true->aH m d=true
 |n,m,.non,_,_=>by simp
 |n,m,.bl _,_,_=>by simp
 |n,m,.int _,_,_=>by simp
 |n,m,.str _,_,_=>by simp
 |n,m,.ty _,_,h=>by cases n<;>simp[aH]at h
 |n,m,.dk _ _,_,h=>by simp at h
 |n,m,.dt _ _,_,h=>by simp at h
 |0,m,.tup _,_,h=>by simp[aH]at h
 |0,m,.lst _,_,h=>by simp[aH]at h
 |n+1,0,_,h,_=>by omega
 |n+1,m+1,.tup ds,hl,h=>by
  simp only[aH,all_eq_true]at h ⊢;exact λd hd=>g9 n m d (by omega) (h d hd)
 |n+1,m+1,.lst ds,hl,h=>by
  simp only[aH,all_eq_true]at h ⊢;exact λd hd=>g9 n m d (by omega) (h d hd)
theorem oK:∀(ds:LD),(∀d∈ds,dc d d=true)->fQ ds ds=true
 |[],_=>by simp only[fQ]
 |d::ds,h=>by
  simp only[fQ,h d mX,Bool.true_and];exact oK ds λe he=>h e (mZ _ he)
theorem nN:∀(n:Nat)(d:D),aH n d=true->dc d d=true
 |n,.non,_=>by simp
 |n,.bl _,_=>by simp
 |n,.int _,_=>by simp
 |n,.str _,_=>by simp
 |n,.ty _,h=>by cases n<;>simp[aH]at h
 |n,.dk _ _,h=>by simp at h
 |n,.dt _ _,h=>by simp at h
 |0,.tup _,h=>by simp[aH]at h
 |0,.lst _,h=>by simp[aH]at h
 |n+1,.tup ds,h=>by
  simp only[aH,all_eq_true]at h;simp only[dc];exact oK ds λd hd=>nN n d (h d hd)
 |n+1,.lst ds,h=>by
  simp only[aH,all_eq_true]at h;simp only[dc];exact oK ds λd hd=>nN n d (h d hd)
end DL
namespace DL
@[simp] noncomputable abbrev sF (d:D):OB:=some (d,false)
@[simp] noncomputable abbrev lT (ds:LD):OB:=some (.lst ds,true)
@[simp] noncomputable abbrev sI (x:Int):OB:=some (.int x,false)
@[simp] noncomputable abbrev sS (x:PySem.Str):OB:=some (.str x,false)
@[simp] noncomputable abbrev sT (x:LD):OB:=some (.tup x,false)
@[simp] noncomputable abbrev sL (x:LD):OB:=some (.lst x,false)
@[simp] noncomputable abbrev sO (x:Bool):OB:=some (.bl x,false)
def cC {r:OB}{d:D}{b:Bool}(h:Pq r d b=true:=by decide +kernel):r=some (d,b):=rN h
def jp {p q:Prop}[Decidable p](h:p)(n:decide p=false:=by decide +kernel):q:=absurd h (of_decide_eq_false n)
end DL
namespace Lw
open PySem DL L2
def Ig (d:D)(r:LD):mD (d::r) 0=some d:=by have:=kO (xs:=d::r) (j:=0) (by simp);simpa using this
def GH (d e:D)(r:LD):mD (d::e::r) 1=some e:=by have:=kO (xs:=d::e::r) (j:=1) (by simp);simpa using this
def RF (d e f:D)(r:LD):mD (d::e::f::r) 2=some f:=by have:=kO (xs:=d::e::f::r) (j:=2) (by simp);simpa using this
noncomputable def cW (k:Str):Bool:=decide (k = "death") || decide (k = "lost") || decide (k = "found")
noncomputable def eQ (k:Str):Bool:=decide (k = "chosen") || decide (k = "heir") || decide (k = "leave") || decide (k = "paper") || decide (k = "like") || decide (k = "copy") || decide (k = "call")
structure DeedP (kind:Str)(ax:List D):Prop where
 flat:bD ax=true
 plain:ax.all (aH 5)=true
 three:cW kind=true->∃(day:Int)(p:Str),ax=[.int day,.str p]
 slg:eQ kind=true->∃(day:Int)(p:Str)(r:List D),ax=.int day::.str p::r
noncomputable def row (h:Int)(kind:Str)(ax:LD):D:=.tup [.int h,.tup (.str kind::ax)]
def oM (r:D):Prop:=∃h kind ax,r=row h kind ax/\DeedP kind ax
def oM.flat (h:oM r):bC r=true:=by obtain⟨a,k,ax,rfl,dp⟩:=h;simp[row,dp.flat]
def oM.plain (h:oM r):aH 39 r=true:=by
 obtain⟨a,k,ax,rfl,dp⟩:=h;refine g9 7 39 _ (by decide) ?_;have:=dp.plain;simp only[row,aH,all_cons,all_nil,Bool.and_true,Bool.true_and];exact this
def cf (h:∀d∈ds,bC d=true):bD ds=true:=by
 induction ds with
 |nil=>rfl
 |cons d r G=>simp[h d (by simp),G λe he=>h e (by simp[he])]
def cL (zs:LS):bD (zs.map D.str)=true:=by
 induction zs with
 |nil=>rfl
 |cons a l G=>simp[G]
noncomputable def br:D->Int
 |.tup (.int h::_)=>h
 |_=>0
noncomputable def kindOf:D->Str
 |.tup [_,.tup (.str k::_)]=>k
 |_=>("" : Str)
noncomputable def aY:D->Int
 |.tup [_,.tup (_::.int d::_)]=>d
 |_=>0
noncomputable def CJ (p:Str)(day:Int):LD->Bool
 |[.int d,.str q]=>decide (q=p) && decide (d<=day)
 |_=>false
def told (G:LS)(p:Str)(day:Int):D->Bool
 |.tup [_,.tup (.str kind::ax)]=>decide (kind∈G) && CJ p day ax
 |_=>false
def cn (h:Int)(kind:Str)(ax:LD):a9 [row h kind ax]=sS kind:=aw rfl (ay (by simp[row,GH,Ig]))
def lh (h:cW k=true):k = "death" ∨ k = "lost" ∨ k = "found":=by
 unfold cW at h;simp only[Bool.or_eq_true,decide_eq_true_eq]at h;rcases h with (h|h)|h
 ·exact .inl h
 ·exact .inr (.inl h)
 ·exact .inr (.inr h)
def mz (h:eQ k=true):k = "chosen" ∨ k = "heir" ∨ k = "leave" ∨ k = "paper" ∨ k = "like" ∨ k = "copy" ∨ k = "call":=by
 unfold eQ at h;simp only[Bool.or_eq_true,decide_eq_true_eq]at h;rcases h with (((((h|h)|h)|h)|h)|h)|h
 ·exact .inl h
 ·exact .inr (.inl h)
 ·exact .inr (.inr (.inl h))
 ·exact .inr (.inr (.inr (.inl h)))
 ·exact .inr (.inr (.inr (.inr (.inl h))))
 ·exact .inr (.inr (.inr (.inr (.inr (.inl h)))))
 ·exact .inr (.inr (.inr (.inr (.inr (.inr h)))))
def JH (h:cW k=true∨eQ k=true):mo bQ (.str k) (.str "day")=sI 0:=by
 rcases h with h|h
 ·rcases lh h with rfl|rfl|rfl<;>exact cC
 ·rcases mz h with rfl|rfl|rfl|rfl|rfl|rfl|rfl<;>exact cC
def Bo (h:cW k=true):mo bQ (.str k) (.str "person")=sI 1:=by
 rcases lh h with rfl|rfl|rfl<;>exact cC
def GI (h:cW k=true∨eQ k=true):dj (.str k) (.str "root")=sO false:=by
 rcases h with h|h
 ·rcases lh h with rfl|rfl|rfl<;>exact cC
 ·rcases mz h with rfl|rfl|rfl|rfl|rfl|rfl|rfl<;>exact cC
def bA {h:Int}{k:Str}{ax:LD}{part:Str}{i:Nat}{d:D}(hi:mo bQ (.str k) (.str part)=sI i)(hd:ax[i]? = some d):au [row h k ax,.str part]=some (d,false):=by
 refine aw rfl (ay ?_);refine bX (.tup (.str k::ax)) (.int (1+i)) (by simp[row,GH]) (bX (.int 1) (.int i) rfl (bX (.str k) (.str part) (aN [row h k ax] rfl (cn _ _ _)) rfl hi) (by simp)) ?_;have G:i<ax.length:=(vV hd).1;have:mD (.str k::ax) (1+(i:Int))=some d:=by
  have:=kO (xs:=(.str k:D)::ax) (j:=i+1) (by simp;omega);rw[show(1+(i:Int))=((i+1:Nat):Int) by omega,this];simp only[List.getElem_cons_succ];rw[vU G]at hd;exact hd
 simp[this]
def jB {h:Int}{k:Str}{ax:LD}{d:Int}{r:LD}(hk:cW k=true∨eQ k=true)(G:ax=.int d::r):aQ [row h k ax]=sI d:=by
 subst G;refine aw rfl (aK (dD (bX (.str k) (.str "root") (aN [row h k (.int d::r)] rfl (cn _ _ _)) rfl (GI hk))) (ay (aN [row h k (.int d::r),.str "day"] rfl (bA (i:=0) (JH hk) rfl))))
def nO (k:Str)(G:LS):Fw (.str k) (G.map .str)=decide (k∈G):=by
 induction G with
 |nil=>simp[Fw]
 |cons w G M=>
  have:Fw (.str k) ((w::G).map .str)=(dc (.str w) (.str k) || Fw (.str k) (G.map .str)):=rfl;rw[this,M,yy];by_cases e:w=k
  ·simp[e]
  ·have O:¬k=w:=λz=>e z.symm;simp[e,O]
def lG (G:LS):(G.map D.str).all fT=true:=by
 induction G with
 |nil=>rfl
 |cons w G M=>simp[fT]
def nQ (k:Str)(G:LS):DC (.str k) (.tup (G.map .str))=sO (decide (k∈G)):=by
 simp only[DC,gM,vJ,nO];rw[if_pos ⟨rfl,lG G⟩]
def GJ (O:oM r)(G:LS)(hw:∀w∈G,cW w=true)(p:Str)(day:Int):qu [r,.tup (G.map .str),.str p,.int day]=sO (told G p day r):=by
 obtain⟨h,kind,ax,rfl,dp⟩:=O;have M:f2 DC (fA a9 (fV 0 aj)) (am 1) [some (row h kind ax,false),sT (G.map .str),sS p,sI day]=sO (decide (kind∈G)) :=
  bX (.str kind) (.tup (G.map .str)) (aN [row h kind ax] rfl (cn _ _ _)) rfl (nQ kind G)
 have T:told G p day (row h kind ax)=(decide (kind∈G) && CJ p day ax):=rfl;rw[T];refine aw rfl (ay (dA (b1:=false) M λhk=>?_));have h3:=hw kind (PN hk);obtain⟨d,q,rfl⟩:=dp.three h3;show ie _ _ _=sO (decide (q=p) && decide (d<=day));refine dA (b1:=false) ?_ λ_=>?_
 ·exact bX (.str q) (.str p) (aN [row h kind [.int d,.str q],.str "person"] rfl (bA (i:=1) (Bo h3) rfl)) rfl (by simp)
 ·exact bX (.int d) (.int day) (aN [row h kind [.int d,.str q]] rfl (jB (.inl h3) rfl)) rfl (by simp)
def GK (ds:LD):uF ds=ds.zipIdx.map λx=>.tup [.int x.2,x.1]:=by
 unfold uF;apply ext_getElem?;intro i;simp[List.getElem?_mapIdx,List.getElem?_zipIdx];cases ds[i]?<;>simp
noncomputable def av (af:LD)(ae:Int):List (D×Nat):=af.zipIdx.filter λx=>decide (br x.1<=ae)
def lm (af:LD)(G:∀r∈af,oM r)(hl:af.length<=1000)(ae:Int):cE [.tup af,.int ae]=lT ((av af ae).map λx=>.int x.2):=by
 have hc:=fW (fi:=FM (am 0)) (nT:=2) (cap:=[1]) (tg:=DG [0,1]) (c:=aT (f2 qQ (cj 1 0) (am 2))) (fe:=am 0) (ρ:=[sT af,sI ae]) af.zipIdx (λx=>.tup [.int x.2,x.1]) (λx=>decide (br x.1<=ae)) (λx=>.int x.2)
  (by simp[GK]) (by simp;omega) λx hx=>by
   obtain⟨h,kind,ax,e,_⟩:=G x.1 (List.fst_mem_of_mem_zipIdx hx);refine⟨_,rfl,dD ?_,λ_=>⟨false,by simp[dq]⟩⟩;simp[dq,e,row,Ig,br]
 exact aw rfl (ay hc)
def qc (af:LD)(ae:Int)(G:LS)(p:Str)(day:Int):List (D×Nat):=(av af ae).filter λx=>told G p day x.1
def CK (h:x∈qc af ae ws p day):af[x.2]? = some x.1/\told ws p day x.1=true:=by
 obtain⟨h1,h2⟩:=vN h;exact⟨(List.mk_mem_zipIdx_iff_getElem? (x:=x.1) (i:=x.2)).mp (vN h1).1,h2⟩
def bT {af:LD}{i:Nat}{r:D}(h:af[i]? = some r):mD af (i:Int)=some r:=by
 obtain⟨G,e⟩:=vV h;rw[kO G,e]
def JJ (af:LD)(ae:Int)(G:LS)(p:Str)(day:Int):(qc af ae G p day).length<=af.length:=by
 have h1:=vM (λx:D×Nat=>told G p day x.1) (av af ae);have h2:=vM (λx:D×Nat=>decide (br x.1<=ae)) af.zipIdx;rw[length_zipIdx]at h2;exact vR h1 h2
def xP (af:LD)(M:∀r∈af,oM r)(hl:af.length<=1000)(ae:Int)(G:LS)(hw:∀w∈G,cW w=true)(p:Str)(day:Int):
  iu [.tup af,.int ae,.tup (G.map .str),.str p,.int day]=lT ((qc af ae G p day).map λx=>.int x.2):=by
 have hc:=fW (fi:=bM (fA cE (fV 0 (fV 1 aj)))) (nT:=1) (cap:=[2,3,4,0]) (tg:=cU 0) (c:=aT (fA qu (ag (f2 bK (am 4) (am 0)) (fV 1 (fV 2 (fV 3 aj)))))) (fe:=am 0)
  (ρ:=[sT af,sI ae,sT (G.map .str),sS p,sI day]) (av af ae) (λx=>.int x.2) (λx=>told G p day x.1) (λx=>.int x.2)
  (by
   show(fA cE (fV 0 (fV 1 aj)) _).bind _=_;rw[aN [.tup af,.int ae] rfl (lm af M hl ae)];rfl) (by have:=vM (λx:D×Nat=>decide (br x.1<=ae)) af.zipIdx;rw[length_zipIdx]at this;exact vR this (by omega)) λx hx=>by
   have O:af[x.2]? = some x.1:=(List.mk_mem_zipIdx_iff_getElem? (x:=x.1) (i:=x.2)).mp (vN hx).1;refine⟨_,rfl,dD (aN [x.1,.tup (G.map .str),.str p,.int day] ?_ (GJ (M _ (vL O)) G hw p day)),λ_=>⟨false,by simp[dq]⟩⟩;have ha:=bT O;simp[dq,ha]
 exact aw rfl (ay hc)
def kA (x:D×Nat):List At:=[.i (aY x.1),.i x.2]
def nR (a b:D×Nat):Bool:=decide (aY a.1<aY b.1∨(aY a.1=aY b.1/\(a.2:Int)<b.2))
def gZ:D×Nat->List (D×Nat)->D×Nat
 |b,[]=>b
 |b,x::r=>if nR b x=true then gZ x r else gZ b r
def Ps:List (D×Nat)->Option (D×Nat)
 |[]=>none
 |x::r=>some (gZ x r)
def MQ (a b c d:Int):bv [.i a,.i b] [.i c,.i d]=some (decide (a<c∨(a=c/\b<d))):=by
 rw[bv];by_cases h:a=c
 ·rw[if_pos h,bv];by_cases h2:b=d
  ·rw[if_pos h2,bv];simp[h,h2]
  ·rw[if_neg h2];simp[h]
 ·rw[if_neg h];simp[h]
def GL (a b:D×Nat):bv (kA a) (kA b)=some (nR a b):=MQ _ _ _ _
def xQ (l:List (D×Nat)):eO (l.map kA)=true:=by
 unfold eO;simp[all_eq_true,GL]
theorem oN:∀(r:List (D×Nat))(b:D×Nat),nc (kA b,.int b.2) (r.map λx=>(kA x,D.int x.2))=.int (gZ b r).2
 |[],b=>rfl
 |x::r,b=>by
  rw[uY,nc,gZ];show(if bv (kA b) (kA x)=some true then _ else _)=_;rw[GL];by_cases h:nR b x=true
  ·rw[if_pos h,if_pos (by rw[h])];exact oN r x
  ·rw[if_neg h,if_neg (by simpa using h)];exact oN r b
theorem sK:∀(r:List (D×Nat))(b:D×Nat),gZ b r∈b::r
 |[],b=>by simp[gZ]
 |x::r,b=>by
  rw[gZ];split
  ·exact mZ _ (sK r x)
  ·rcases vP (sK r b)with h|h
   ·rw[h];exact mX
   ·exact mZ _ (mZ _ h)
theorem iM {α:Type}{f:D->Option D}{g h:α->D}:∀(l:List α),(∀x∈l,f (g x)=some (h x))->j4 f (l.map g)=some (l.map h)
 |[],_=>rfl
 |x::l,hx=>by
  rw[uY,j4,hx x mX,vJ,iM l λy hy=>hx y (mZ _ hy)];rfl
theorem iz {α:Type}{g:α->D}{h:α->List At}:∀(l:List α),(∀x∈l,yZ (g x)=some (h x))->dO (l.map g)=some (l.map h)
 |[],_=>rfl
 |x::l,hx=>by
  rw[uY,dO,hx x mX,vJ,iz l λy hy=>hx y (mZ _ hy)];rfl
noncomputable def pL:LS:=[("lost" : Str),"found"]
def pM:∀w∈pL,cW w=true:=by
 intro w hw;rcases vP hw with rfl|hw
 ·decide +kernel
 ·rcases vP hw with rfl|hw
  ·decide +kernel
  ·cases hw
def zF (af:LD)(ae:Int)(p:Str)(day:Int):Bool:=match Ps (qc af ae pL p day) with
 |none=>true
 |some b=>decide (kindOf b.1 = "found")
def sM (hw:∀w∈ws,cW w=true)(M:oM r)(O:told ws p day r=true):∃h k d,r=row h k [.int d,.str p]/\cW k=true/\k∈ws/\d<=day:=by
 obtain⟨h,kind,ax,rfl,dp⟩:=M;have G:(decide (kind∈ws) && CJ p day ax)=true:=O;rw[vC]at G;have hm:=PN G.1;obtain⟨d,q,rfl⟩:=dp.three (hw _ hm);have hq:(decide (q=p) && decide (d<=day))=true:=G.2;rw[vC]at hq;have:=PN hq.1;subst this;exact⟨h,kind,d,rfl,hw _ hm,hm,PN hq.2⟩
def CL {af:LD}{i:Nat}{h d:Int}{k p:Str}(G:af[i]? = some (row h k [.int d,.str p]))(h3:cW k=true):fz [.tup af,.int i]=sT [.int d,.int i]:=by
 have ha:=bT G;refine aw rfl (ay (aN [.int d,.int i] (aS (d:=.int d) (b:=false) (aN [row h k [.int d,.str p]] (by simp[ha]) (jB (.inl h3) rfl)) rfl) (by simp[sizeLine])))
def JL (af:LD)(hr:∀r∈af,oM r)(hl:af.length<=1000)(ae:Int)(p:Str)(day:Int):ms [.tup af,.int ae,.str p,.int day]=sO (zF af ae p day):=by
 have ht:=xP af hr hl ae pL pM p day;have U:=JJ af ae pL p day;have M:∀x∈qc af ae pL p day,∃h k d,af[x.2]? = some (row h k [.int d,.str p])/\x.1=row h k [.int d,.str p]/\cW k=true:=λx hx=>by
  obtain⟨O,Tg⟩:=CK hx;obtain⟨h,k,d,e,h3,_⟩:=sM pM (hr _ (vL O)) Tg;exact⟨h,k,d,by rw[O,e],e,h3⟩
 unfold zF;generalize hsel:qc af ae pL p day=sel at ht M U ⊢;have G:fA iu (fV 0 (fV 1 (ag (fA aX (ag (fS "lost") (ag (fS "found") aj))) (fV 2 (fV 3 aj))))) [sT af,sI ae,sS p,sI day,none]=lT (sel.map λx=>.int x.2) :=
  aN [.tup af,.int ae,.tup (pL.map .str),.str p,.int day] (by simp[pL,sizeLine]) ht
 have T:bD (sel.map λx=>D.int x.2)=true:=cf λd hd=>by obtain⟨x,_,rfl⟩:=vO hd;rfl
 cases sel with
 |nil=>exact aw rfl (cG G T (bF (dD (by simp)) (ay rfl)))
 |cons x r=>
  refine aw rfl (cG G T (aK (dD (by simp;omega)) (ay ?_)));obtain⟨h,k,d,O,e,h3⟩:=M (gZ x r) (sK r x);have hb:kindOf (gZ x r).1=k:=by rw[e];rfl
  show _=some (D.bl (decide (kindOf (gZ x r).1 = "found")),false);rw[hb];refine bX (.str k) (.str "found") (aN [row h k [.int d,.str p]] (aS (d:=row h k [.int d,.str p]) (b:=false) (bX (.tup af) (.int (gZ x r).2) rfl ?_ (by simp[bT O])) rfl) (cn _ _ _)) rfl (by simp);have hm:∀ρ:DL.Env,ρ[0]? = some (sT af)->j4 (rm [0] (fA fz (fV 1 (fV 0 aj))) ρ) ((x::r).map λx=>D.int x.2)=some ((x::r).map λx=>.tup [.int (aY x.1),.int x.2]):=λρ h0=>
   iM (x::r) λy hy=>by
    obtain⟨h,k,d,O,e,h3⟩:=M y hy;have hd:aY y.1=d:=by rw[e];rfl
    rw[hd];show(fA fz _ _).map _=_;rw[aN [.tup af,.int y.2] (by simp[dq,h0]) (CL O h3)];rfl
  have hk:dO ((x::r).map λx=>D.tup [.int (aY x.1),.int x.2])=some ((x::r).map kA):=iz (x::r) λy _=>rfl;have hz:((x::r).map kA).zip ((x::r).map λx=>D.int x.2)=(kA x,.int x.2)::r.map λx=>(kA x,D.int x.2):=by
   rw[zip_map'];rfl
  show(vj (am 4) _ _)=_;unfold vj MD;show((some (D.lst ((x::r).map λx=>D.int x.2),false)).bind _)=_;simp only[vJ];rw[hm _ rfl];simp only[vJ];rw[hk];simp only[vJ];rw[if_pos (xQ _),hz];simp only[oN]
noncomputable def fL:LS:=[("death" : Str)]
def jT:∀w∈fL,cW w=true:=by
 intro w hw;rcases vP hw with rfl|hw
 ·decide +kernel
 ·cases hw
def sP (af:LD)(ae:Int)(p:Str)(day:Int):Bool:=(qc af ae fL p day).isEmpty
def GN (af:LD)(M:∀r∈af,oM r)(hl:af.length<=1000)(ae:Int)(p:Str)(day:Int):qw [.tup af,.int ae,.str p,.int day]=sO (sP af ae p day):=by
 have G:=xP af M hl ae fL jT p day;unfold sP;generalize qc af ae fL p day=sel at G ⊢;refine aw rfl (ay (bX (.int ((sel.map λx=>D.int x.2).length:Nat)) (.int 0) ?_ rfl ?_))
 ·exact aN [.lst (sel.map λx=>.int x.2)] (aS (d:=.lst (sel.map λx=>.int x.2)) (b:=true) (aN [.tup af,.int ae,.tup (fL.map .str),.str p,.int day] (by simp[sizeLine,fL]) G) rfl) JG
 ·rw[C5];cases sel<;>simp
  omega
noncomputable def dm:D->Str
 |.tup [_,.tup (_::_::.str p::_)]=>p
 |_=>("" : Str)
noncomputable def zG:LS:=[("chosen" : Str),"heir","leave","paper","like","copy","call"]
def sQ (k:Str):eQ k=decide (k∈zG):=by
 unfold eQ zG;simp[mem_cons,Bool.or_assoc]
def Bp:iE=.tup (zG.map .str):=rfl
def pN (k:Str)(G:LS):df (.str k) (.tup (G.map .str))=sO (!decide (k∈G)):=by
 simp only[df,gM,vJ,nO];rw[if_pos ⟨rfl,lG G⟩]
def GO (h:eQ k=true):mo bQ (.str k) (.str "by")=sI 1:=by
 rcases mz h with rfl|rfl|rfl|rfl|rfl|rfl|rfl<;>exact cC
def ln (af:LD)(ae:Int)(r:D):Bool:=(decide (br r<=ae) && eQ (kindOf r)) && (sP af ae (dm r) (aY r) && zF af ae (dm r) (aY r))
def lq {af:LD}{i:Nat}{h:Int}{kind:Str}{ax:LD}(G:af[i]? = some (row h kind ax))(ae:Int):cA [.tup af,.int ae,.int i]=sO (decide (h<=ae)):=by
 have M:i<af.length:=(vV G).1;have ha:=bT G;refine aw rfl (ay ?_);have:=dA (f1:=i7 qQ AJ (fI 0) (am 2) (fA dR (fV 0 aj))) (f2:=f2 qQ (f2 bK (f2 bK (am 0) (am 2)) (fI 0)) (am 1)) (ρ:=[sT af,sI ae,sI i]) (p:=true) (q:=decide (h<=ae)) (b1:=false)
  (by
   refine(zq (x:=.int 0) (y:=.int i) (z:=.int af.length) (b1:=false) (b2:=false) (b3:=false) (b4:=false) (p:=true) (q:=true) rfl rfl (by simp) (by simp) λ_=>?_).trans rfl;simp;omega) λ_=>by simp[ha,row,Ig]
 exact this
def zH (af:LD)(O:∀r∈af,oM r)(hl:af.length<=1000)(ae:Int){i:Nat}{r:D}(T:af[i]? = some r):gp [.tup af,.int ae,.int i]=sO (ln af ae r):=by
 obtain⟨h,kind,ax,rfl,dp⟩:=O r (vL T);have hk:=lq T ae;have ha:=bT T;have M:∀(ρ:DL.Env),f2 bK (am 0) (am 2) ρ=some (row h kind ax,false)->fA a9 (ag (f2 bK (am 0) (am 2)) aj) ρ=sS kind:=λρ e=>aN [row h kind ax] (aS e rfl) (cn _ _ _);have G:f2 bK (am 0) (am 2) [sT af,sI ae,sI i,none,none]=some (row h kind ax,false):=by simp[ha]
 have hc:(dQ (bU (aT (fA cA (fV 0 (fV 1 (fV 2 aj)))))) (aT (f2 df (fA a9 (ag (f2 bK (am 0) (am 2)) aj)) (fC iE)))) [sT af,sI ae,sI i,none,none]=some (!decide (h<=ae) || !eQ kind):=by
  refine ee (bN (dD (aN [.tup af,.int ae,.int i] rfl hk))) λ_=>dD (bX (.str kind) iE (M _ G) rfl ?_);rw[Bp,sQ];exact pN kind zG
 have hs:ln af ae (row h kind ax)=((decide (h<=ae) && eQ kind) && (sP af ae (dm (row h kind ax)) (aY (row h kind ax)) && zF af ae (dm (row h kind ax)) (aY (row h kind ax)))):=rfl;cases hb:(decide (h<=ae) && eQ kind) with
 |false=>
  rw[hs,hb];refine aw rfl (bF (hc.trans ?_) (ay rfl));rw[←Bool.not_and,hb];rfl
 |true=>
  rw[hs,hb];rw[vC]at hb;obtain⟨day,p,U,rfl⟩:=dp.slg hb.2;show _=some (D.bl (true && (sP af ae p day && zF af ae p day)),false);rw[Bool.true_and];refine aw rfl (aK (hc.trans (by rw[hb.1,hb.2];rfl)) (jC (.str p) (aN [row h kind (.int day::.str p::U),.str "by"] (aS G rfl) (bA (i:=1) (GO hb.2) rfl)) rfl (jC (.int day) (aN [row h kind (.int day::.str p::U)] (aS (d:=row h kind (.int day::.str p::U)) (b:=false) (by simp[ha]) rfl) (jB (.inr hb.2) rfl)) rfl (ay ?_))));exact dA (b1:=false) (aN [.tup af,.int ae,.str p,.int day] (by simp) (GN af O hl ae p day)) λ_=>aN [.tup af,.int ae,.str p,.int day] (by simp) (JL af O hl ae p day)
inductive Cd:Str->List D->Prop
 |root (o r:Str) (m f:Int):Cd ("root" : Str) [.str o,.int m,.int f,.str r]
 |named (d:Int) (o p:Str):Cd ("named" : Str) [.int d,.str o,.str p]
 |three (k:Str) (hk:k = "death" ∨ k = "lost" ∨ k = "found") (d:Int) (p:Str):Cd k [.int d,.str p]
 |other (k:Str) (hk:k = "leave" ∨ k = "paper" ∨ k = "like" ∨ k = "copy" ∨ k = "call") (d:Int) (b:Str) (r:List D) (hf:bD r=true) (hp:r.all (aH 5)=true):Cd k (.int d::.str b::r)
def Cd.deed (h:Cd k r):DeedP k r:=by
 cases h with
 |root o rl m f=>exact⟨rfl,by simp,λh=>jp h,λh=>jp h⟩
 |named d o p=>exact⟨rfl,by simp,λh=>jp h,λh=>jp h⟩
 |three k hk d p=>exact⟨rfl,by simp,λ_=>⟨d,p,rfl⟩,λh=>by rcases hk with rfl|rfl|rfl<;>exact jp h⟩
 |other k hk d b r hf hp=>exact⟨by simp[hf],by simp only[all_cons,hp,aH,Bool.and_true],λh=>by rcases hk with rfl|rfl|rfl|rfl|rfl<;>exact jp h,λ_=>⟨d,b,r,rfl⟩⟩
def xR (r:D):Prop:=∃h k ax,r=row h k ax/\Cd k ax
def xR.rp (h:xR r):oM r:=by obtain⟨a,k,ax,rfl,d⟩:=h;exact⟨a,k,ax,rfl,d.deed⟩
def bp (r:D):Bool:=decide (kindOf r = "root")
def Cd.day (h:Cd k r)(hk:k ≠ "root"):∃d q,r=.int d::q:=by
 cases h with
 |root=>exact absurd rfl hk
 |named d=>exact⟨d,_,rfl⟩
 |three _ _ d=>exact⟨d,_,rfl⟩
 |other _ _ d=>exact⟨d,_,rfl⟩
def Cd.day_idx (h:Cd k r)(hk:k ≠ "root"):mo bQ (.str k) (.str "day")=sI 0:=by
 cases h with
 |root=>exact absurd rfl hk
 |named=>exact cC
 |three _ hh=>rcases hh with rfl|rfl|rfl<;>exact cC
 |other _ hh=>rcases hh with rfl|rfl|rfl|rfl|rfl<;>exact cC
def ci (e:f ρ=some (.str a,bb))(h:decide (a=b)=x):aT (f2 dj f (fS b)) ρ=some x:=dD (cK (x:=.str a) (y:=.str b) (b1:=bb) (b2:=false) e rfl (by rw[←h];simp))
def xS (r:D):D:=if bp r=true then .non else .int (aY r)
def iN (g:xR r):a9 [r]=sS (kindOf r):=by
 obtain⟨h,k,ax,rfl,_⟩:=g;exact cn h k ax
def wn (g:xR r):aQ [r]=some (xS r,false):=by
 obtain⟨h,k,ax,rfl,d⟩:=g;unfold xS;by_cases hk:k = "root"
 ·have:bp (row h k ax)=true:=Aq hk;rw[if_pos this];exact aw rfl (bF (ci (a:=k) (bb:=false) (aN [row h k ax] rfl (cn _ _ _)) (Aq hk)) (ay rfl))
 ·have:bp (row h k ax)=false:=PK hk;rw[if_neg (by rw[this];decide)];obtain⟨dd,q,rfl⟩:=d.day hk;exact aw rfl (aK (ci (a:=k) (bb:=false) (aN [row h k (.int dd::q)] rfl (cn _ _ _)) (PK hk)) (ay (aN [row h k (.int dd::q),.str "day"] rfl (bA (i:=0) (d.day_idx hk) rfl))))
def gQ (af:LD):Prop:=af.length<=60/\∀r∈af,xR r
def gQ.rp (g:gQ af):∀r∈af,oM r:=λr G=>(g.2 r G).rp
def gQ.le (g:gQ af):af.length<=1000:=vR g.1 (by decide)
def bI (h:x∈av af ae):af[x.2]? = some x.1:=by
 obtain⟨h1,_⟩:=vN h;exact List.mem_zipIdx_iff_getElem?.mp h1
def cD (af:LD)(ae:Int):(av af ae).length<=af.length:=by
 have:=vM (λx:D×Nat=>decide (br x.1<=ae)) af.zipIdx;rw[length_zipIdx]at this;exact this
def eI (af:LD)(ae:Int):((av af ae).map (·.2)).Nodup:=by
 have h1:(af.zipIdx.map (·.2)).Nodup:=by rw[List.zipIdx_map_snd];exact List.nodup_range'
 exact List.Nodup.sublist (List.Sublist.map _ (filter_sublist)) h1
def di (af:LD)(ae:Int):List (D×Nat):=(av af ae).filter λx=>!bp x.1
def Pt (af:LD)(ae:Int):List (D×Nat):=eN (λx=>cQ (kA x)) (di af ae)
def GP (h:cQ (kA a)=cQ (kA b)):a.2=b.2:=by
 have h:[aY a.1,(a.2:Int)]=[aY b.1,(b.2:Int)]:=h;injection h with _ h;injection h with h;omega
def JM (ha:a∈av af ae)(hb:b∈av af ae)(h:a.2=b.2):a=b:=by
 have h1:=bI ha;have h2:=bI hb;rw[h,h2]at h1;exact Prod.ext (vK h1).symm h
def pO (g:gQ af)(ae:Int):eC [.tup af,.int ae]=lT ((Pt af ae).map λx=>.int x.2):=by
 have hl:=g.1;have QT:=cD af ae;have M:∀x∈av af ae,mD af (x.2:Int)=some x.1/\xR x.1:=λx hx=>⟨bT (bI hx),g.2 _ (vL (bI hx))⟩;have hc:=fW (fi:=bM (fA cE (fV 0 (fV 1 aj)))) (nT:=1) (cap:=[0]) (tg:=cU 0) (c:=aT (f2 jI (fA aQ (ag (f2 bK (am 1) (am 0)) aj)) (fC .non))) (fe:=am 0) (ρ:=[sT af,sI ae,none]) (av af ae) (λx=>.int x.2) (λx=>!bp x.1) (λx=>.int x.2)
  (by
   show(fA cE (fV 0 (fV 1 aj)) _).bind _=_;rw[aN [.tup af,.int ae] rfl (lm af g.rp g.le ae)];rfl) (by omega) λx hx=>by
   obtain⟨ha,T⟩:=M x hx;refine⟨_,rfl,dD (bX (xS x.1) .non (aN [x.1] (by simp[dq,ha]) (wn T)) rfl ?_),λ_=>⟨false,by simp[dq]⟩⟩;unfold xS;cases bp x.1<;>simp[xg]
 have U:bO (bM (fA cE (fV 0 (fV 1 aj)))) 1 [0] (cU 0) (aT (f2 jI (fA aQ (ag (f2 bK (am 1) (am 0)) aj)) (fC .non))) (am 0) [sT af,sI ae,none]=lT ((di af ae).map λx=>.int x.2):=hc;have KA:bD ((di af ae).map λx=>D.int x.2)=true:=cf λd hd=>by obtain⟨x,_,rfl⟩:=vO hd;rfl
 have Ob:(di af ae).length<=60:=vR (vM _ _) (by omega);have G:∀x∈di af ae,x∈av af ae/\bp x.1=false:=λx hx=>by
  obtain⟨h1,h2⟩:=vN hx;exact⟨h1,by simpa using h2⟩
 have hm:∀ρ:DL.Env,ρ[0]? = some (sT af)->j4 (rm [0] (fA fz (fV 1 (fV 0 aj))) ρ) ((di af ae).map λx=>.int x.2)=some ((di af ae).map λx=>.tup [.int (aY x.1),.int x.2]):=λρ h0=>
  iM (di af ae) λx hx=>by
   obtain⟨h1,h2⟩:=G x hx;obtain⟨ha,T⟩:=M x h1;have hd:=wn T;unfold xS at hd;rw[h2,if_neg (by decide)]at hd;have hr:fz [.tup af,.int x.2]=sT [.int (aY x.1),.int x.2]:=aw rfl (ay (aN [.int (aY x.1),.int x.2] (aS (d:=.int (aY x.1)) (b:=false) (aN [x.1] (by simp[ha]) hd) rfl) (by simp[sizeLine])));show(fA fz _ _).map _=_;rw[aN [.tup af,.int x.2] (by simp[dq,h0]) hr];rfl
 have hk:dO ((di af ae).map λx=>D.tup [.int (aY x.1),.int x.2])=some ((di af ae).map kA):=iz _ λx _=>rfl;have hz:((di af ae).map kA).zip ((di af ae).map λx=>D.int x.2)=(di af ae).map λx=>(kA x,D.int x.2):=by rw[zip_map']
 have NF:((di af ae).map (·.2)).Nodup:=List.Nodup.sublist (List.Sublist.map _ (filter_sublist)) (eI af ae);have O:((di af ae).map kA).length<64/\eO ((di af ae).map kA)=true/\fK ((di af ae).map kA)=true/\(((di af ae).map kA).map cQ).Nodup:=by
  refine⟨by rw[vI];omega,xQ _,?_,?_⟩
  ·unfold fK;rw[Bool.or_eq_true];left;simp[all_eq_true,kA]
  ·rw[uP];exact List.Pairwise.map _ (λa b h e=>h (GP e)) (pairwise_map.mp NF)
 refine aw rfl (cG U KA (ay ?_));show(rq (am 2) _ _)=_;unfold rq;show((some (D.lst ((di af ae).map λx=>D.int x.2),false)).bind _)=_;simp only[vJ];rw[hm _ rfl];simp only[vJ];rw[hk];simp only[vJ];rw[if_pos O];unfold j5;rw[hz];have key:((Pt af ae).map λx=>(kA x,D.int x.2))=eN (λp:List At×D=>cQ p.1) ((di af ae).map λx=>(kA x,D.int x.2)):=by
  refine kI _ (λx hx y hy e=>?_) ((bH _ _).map _) ?_
  ·obtain⟨a,ha,rfl⟩:=vO hx;obtain⟨b,hb,rfl⟩:=vO hy;rw[JM (G a ha).1 (G b hb).1 (GP e)]
  ·exact pairwise_map.mpr (ge _ _)
 rw[←key,uP];rfl
structure Cl where
 o:Str
 p:Str
 s:Int
 u:Option Int
 n:Nat
noncomputable def uD:OI->D
 |none=>.non
 |some x=>.int x
def bu (c:Cl):D:=.tup [.str c.o,.str c.p,.int c.s,uD c.u,.int c.n]
def CM (u:OI):bC (uD u)=true:=by cases u<;>rfl
def nU (c:Cl):bC (bu c)=true:=by simp[bu,CM]
def nV (cs:List Cl):bD (cs.map bu)=true:=cf λd hd=>by obtain⟨c,_,rfl⟩:=vO hd;exact nU c
noncomputable def iO (c:Cl)(day:Int):Bool:=decide (c.s<=day) && (match c.u with|none=>true|some x=>decide (day<x))
def Vl (d e f g:D)(r:LD):mD (d::e::f::g::r) 3=some g:=by have:=kO (xs:=d::e::f::g::r) (j:=3) (by simp);simpa using this
def Vm (d e f g h:D)(r:LD):mD (d::e::f::g::h::r) 4=some h:=by have:=kO (xs:=d::e::f::g::h::r) (j:=4) (by simp);simpa using this
def Pu (c:Cl):bK (bu c) (.int 0)=sS c.o:=by simp[bu,Ig]
def NU (c:Cl):bK (bu c) (.int 1)=sS c.p:=by simp[bu,GH]
def Q9 (c:Cl):bK (bu c) (.int 2)=sI c.s:=by simp[bu,RF]
def Vn (c:Cl):bK (bu c) (.int 3)=some (uD c.u,false):=by simp[bu,Vl]
def QA (c:Cl):bK (bu c) (.int 4)=sI c.n:=by simp[bu,Vm]
def cz (ds:LD)(h:ds.length<=100):aX ds=sT ds:=if_pos (eA (by omega))
def gA (ds:LD)(h:ds.length<=100):cx ds=lT ds:=if_pos (eA (by omega))
def xT (s day:Int)(u:OI):gn [.int day,.tup [.int s,uD u]]=sO (decide (s<=day) && (match u with|none=>true|some x=>decide (day<x))):=by
 refine aw rfl (ay (dA (b1:=false) (by simp[Ig]) λ_=>?_));cases u with
 |none=>exact no (p:=true) (q:=true) (b1:=false) (by simp[GH,uD]) (by simp)
 |some x=>exact no (p:=false) (q:=decide (day<x)) (b1:=false) (by simp[GH,uD]) λ_=>by simp[GH,uD]
def sR (c:Cl)(day:Int):cS [bu c,.int day]=sO (iO c day) :=
 aw rfl (ay (aN [.int day,.tup [.int c.s,uD c.u]] (bY rfl (bY (aN [.int c.s,uD c.u] (aS (bX (bu c) (.int 2) rfl rfl (Q9 c)) (aS (bX (bu c) (.int 3) rfl rfl (Vn c)) rfl)) (cz _ (by simp))) rfl)) (xT c.s day c.u)))
def zI (c:Cl):dB [bu c]=sT [.int c.s,.int c.n] :=
 aw rfl (ay (aN [.int c.s,.int c.n] (aS (bX (bu c) (.int 2) rfl rfl (Q9 c)) (aS (bX (bu c) (.int 4) rfl rfl (QA c)) rfl)) (cz _ (by simp))))
def xU (c:Cl):gP [bu c]=sT [.str c.o,.int c.s,.int c.n] :=
 aw rfl (ay (aN [.str c.o,.int c.s,.int c.n] (aS (bX (bu c) (.int 0) rfl rfl (Pu c)) (aS (bX (bu c) (.int 2) rfl rfl (Q9 c)) (aS (bX (bu c) (.int 4) rfl rfl (QA c)) rfl))) (cz _ (by simp))))
noncomputable def kS (c:Cl):List At:=[.i c.s,.i c.n]
def nW:Cl->List Cl->Cl
 |b,[]=>b
 |b,x::r=>if bv (kS x) (kS b)=some true then nW x r else nW b r
def uj:Cl->List Cl->Cl
 |b,[]=>b
 |b,x::r=>if bv (kS b) (kS x)=some true then uj x r else uj b r
theorem sU:∀(r:List Cl)(b:Cl),lN (kS b,bu b) (r.map λx=>(kS x,bu x))=bu (nW b r)
 |[],b=>rfl
 |x::r,b=>by
  rw[uY,lN,nW];split
  ·exact sU r x
  ·exact sU r b
theorem sV:∀(r:List Cl)(b:Cl),nc (kS b,bu b) (r.map λx=>(kS x,bu x))=bu (uj b r)
 |[],b=>rfl
 |x::r,b=>by
  rw[uY,nc,uj];split
  ·exact sV r x
  ·exact sV r b
def CN (cs:List Cl):eO (cs.map kS)=true:=by
 unfold eO;simp[all_eq_true,kS,MQ]
def sW (ρ:DL.Env)(cs:List Cl):j4 (uh dB ρ) (cs.map bu)=some (cs.map λc=>.tup [.int c.s,.int c.n]):=iM cs λc _=>by
 show(dB [bu c]).map _=_;rw[zI];rfl
def pP (cs:List Cl):dO (cs.map λc=>D.tup [.int c.s,.int c.n])=some (cs.map kS):=iz cs λc _=>rfl
def GQ (e:f ρ=some (.lst ((b::r).map bu),bb)):vk f (uh dB) ρ=some (bu (nW b r),false):=by
 unfold vk MD;rw[e,vJ];dsimp only;rw[sW,vJ,pP,vJ,if_pos (CN _)];have:((b::r).map kS).zip ((b::r).map bu)=(kS b,bu b)::r.map λx=>(kS x,bu x):=by rw[zip_map'];rfl
 rw[this];show some (lN _ _,false)=_;rw[sU]
def MT (e:f ρ=some (.lst ((b::r).map bu),bb)):vj f (uh dB) ρ=some (bu (uj b r),false):=by
 unfold vj MD;rw[e,vJ];dsimp only;rw[sW,vJ,pP,vJ,if_pos (CN _)];have:((b::r).map kS).zip ((b::r).map bu)=(kS b,bu b)::r.map λx=>(kS x,bu x):=by rw[zip_map'];rfl
 rw[this];show some (nc _ _,false)=_;rw[sV]
def iP (rl:Str)(b:Cl)(r:List Cl):Cl:=if rl = "last" then uj b r else nW b r
def GS (rl:Str)(b:Cl)(r:List Cl):mu [.lst ((b::r).map bu),.str rl]=sS (iP rl b r).p:=by
 unfold iP;by_cases h:rl = "last"
 ·rw[if_pos h];exact aw rfl (bF (ci (a:=rl) (bb:=false) rfl (Aq h)) (ay (bX (bu (uj b r)) (.int 1) (MT (bb:=false) rfl) rfl (NU _))))
 ·rw[if_neg h];exact aw rfl (aK (ci (a:=rl) (bb:=false) rfl (PK h)) (ay (bX (bu (nW b r)) (.int 1) (GQ (bb:=false) rfl) rfl (NU _))))
theorem sX:∀(r:List Cl)(b:Cl),nW b r∈b::r
 |[],b=>by simp[nW]
 |x::r,b=>by
  rw[nW];split
  ·exact mZ _ (sX r x)
  ·rcases vP (sX r b)with h|h
   ·rw[h];exact mX
   ·exact mZ _ (mZ _ h)
theorem sY:∀(r:List Cl)(b:Cl),uj b r∈b::r
 |[],b=>by simp[uj]
 |x::r,b=>by
  rw[uj];split
  ·exact mZ _ (sY r x)
  ·rcases vP (sY r b)with h|h
   ·rw[h];exact mX
   ·exact mZ _ (mZ _ h)
def Ei (rl:Str)(b:Cl)(r:List Cl):iP rl b r∈b::r:=by
 unfold iP;split
 ·exact sY r b
 ·exact sX r b
noncomputable def NV (cs:List Cl)(o:Str)(day:Int):List Cl:=cs.filter λc=>decide (c.o=o) && iO c day
def m8 (cs:List Cl):LS:=kH (ga (cs.map (·.p)))
def Pw:List Cl->Nat
 |[]=>0
 |b::r=>(nW b r).n
def pQ (rl:Str):List Cl->D
 |[]=>.tup [.str "none"]
 |b::r=>if 1<(m8 (b::r)).length/\rl = "open" then .tup [.str "parted",.lst ((m8 (b::r)).map .str)]
  else .tup [.str "one",.str (iP rl b r).p,.int (Pw ((b::r).filter λc=>decide (c.p=(iP rl b r).p)))]
def kh (cs:List Cl)(o rl:Str)(day:Int):D:=pQ rl (NV cs o day)
def JN {z:Str}:ga (z::zs)≠[]:=by
 have:∀(ss:LS)(G:LS),z∈G->z∈ss.foldl ji G:=λss=>by
  induction ss with
  |nil=>intro G h;exact h
  |cons a l M=>intro G h;exact M _ (qW.mpr (.inl h))
 have h:=this zs (ji [] z) (qW.mpr (.inr rfl));intro e;unfold ga at e;rw[foldl_cons]at e;rw[e]at h;cases h
def lr:au [row h ("root" : Str) [.str o,.int m,.int f,.str rl],.str "office"]=sS o:=bA (i:=0) cC rfl
def Ej:au [row h ("root" : Str) [.str o,.int m,.int f,.str rl],.str "rule"]=sS rl:=bA (i:=3) cC rfl
def sZ (zs:LS):jZ (zs.map .str)=some zs:=by
 induction zs with
 |nil=>rfl
 |cons z zs G=>simp[G]
def nX (cs:List Cl)(hl:cs.length<=60)(day:Int):eE [.lst (cs.map bu),row h ("root" : Str) [.str o,.int m,.int f,.str rl],.int day]=some (kh cs o rl day,false):=by
 let rt:D:=row h ("root" : Str) [.str o,.int m,.int f,.str rl];have h1:=fW (fi:=bM (am 0)) (nT:=1) (cap:=[2,1]) (tg:=cU 0) (c:=eU (aT (f2 dj (cj 0 0) (fA au (fV 2 (ag (fS "office") aj))))) (aT (fA cS (fV 0 (fV 1 aj))))) (fe:=am 0)
  (ρ:=[sL (cs.map bu),some (rt,false),sI day,none,none,none,none]) cs bu (λc=>decide (c.o=o) && iO c day) bu (by simp) (by omega) λc hc=>by
   refine⟨_,rfl,ft (dD (bX (.str c.o) (.str o) (bX (bu c) (.int 0) (by simp[dq]) rfl (Pu c)) (aN [rt,.str "office"] (by simp[dq]) lr) (by simp))) λ_=>dD (aN [bu c,.int day] (by simp[dq]) (sR c day)),λ_=>⟨false,by simp[dq]⟩⟩
 have T:bO (bM (am 0)) 1 [2,1] (cU 0) (eU (aT (f2 dj (cj 0 0) (fA au (fV 2 (ag (fS "office") aj))))) (aT (fA cS (fV 0 (fV 1 aj))))) (am 0) [sL (cs.map bu),some (rt,false),sI day,none,none,none,none]=lT ((NV cs o day).map bu):=h1;have XA:(NV cs o day).length<=60:=vR (vM _ _) hl;unfold kh;generalize NV cs o day=al at T XA;have h2:∀ρ:DL.Env,ρ[3]? = some (lT (al.map bu))->f1 fJ (bO (bM (am 3)) 1 [] (cU 0) fR (cj 0 1)) ρ=lT ((m8 al).map .str):=λρ h3=>by
  have hc:=px (fi:=bM (am 3)) (nT:=1) (cap:=[]) (tg:=cU 0) (fe:=cj 0 1) (ρ:=ρ) al bu (λc=>.str c.p) (by simp[h3]) (by omega) λc hc=>⟨_,rfl,false,bX (bu c) (.int 1) (by simp[dq]) rfl (NU c)⟩;have e2:al.map (λc=>D.str c.p)=(al.map (·.p)).map .str:=by rw[uP];rfl
  rw[e2]at hc;unfold f1;rw[hc,vJ];show(jZ ((al.map (·.p)).map .str)).bind _=_;rw[sZ,vJ,if_pos (by rw[vI];omega)];rfl
 have Ii:bD ((m8 al).map D.str)=true:=cL _;refine aw rfl (cG (ds:=al.map bu) T (nV al) (cG (ds:=(m8 al).map .str) (h2 _ rfl) Ii ?_));cases al with
 |nil=>exact bF (dD (by simp[m8,ga,kH])) (ay (aN [.str "none"] rfl (cz _ (by simp))))
 |cons b r=>
  have Dp:(m8 (b::r)).length≠0:=by
   unfold m8;rw[(gd _).length_eq];intro e;exact JN (List.length_eq_zero_iff.mp e)
  refine aK (dD (by simp[Dp])) ?_;have G:∀ρ:DL.Env,ρ[1]? = some (some (rt,false))->fA au (fV 1 (ag (fS "rule") aj)) ρ=sS rl:=λρ q1=>aN [rt,.str "rule"] (by simp[q1]) Ej;by_cases hp:1<(m8 (b::r)).length/\rl = "open"
  ·have:pQ rl (b::r)=.tup [.str "parted",.lst ((m8 (b::r)).map .str)]:=by rw[pQ,if_pos hp]
   rw[this];exact bF (ft (p:=true) (q:=true) (dD (by simp;omega)) λ_=>ci (bb:=false) (G _ rfl) (Aq hp.2)) (ay (aN [.str "parted",.lst ((m8 (b::r)).map .str)] (by simp) (cz _ (by simp))))
  ·have:pQ rl (b::r)=.tup [.str "one",.str (iP rl b r).p,.int (Pw ((b::r).filter λc=>decide (c.p=(iP rl b r).p)))]:=by rw[pQ,if_neg hp]
   rw[this];have M:eU (aT (f2 EC (fA dR (fV 4 aj)) (fI 1))) (aT (f2 dj (fA au (fV 1 (ag (fS "rule") aj))) (fS "open"))) [sL (cs.map bu),some (rt,false),sI day,lT ((b::r).map bu),lT ((m8 (b::r)).map .str),none,none]=some false:=by
    by_cases h5:1<(m8 (b::r)).length
    ·exact ft (p:=true) (q:=false) (dD (by simp;omega)) λ_=>ci (bb:=false) (G _ rfl) (PK λe=>hp ⟨h5,e⟩)
    ·exact ft (p:=false) (q:=false) (dD (by simp;omega)) (by simp)
   have U:=Ei rl b r;let ch:=iP rl b r;have h6:=fW (fi:=bM (am 3)) (nT:=1) (cap:=[5]) (tg:=cU 0) (c:=aT (f2 dj (cj 0 1) (am 1))) (fe:=am 0) (ρ:=[sL (cs.map bu),some (rt,false),sI day,lT ((b::r).map bu),lT ((m8 (b::r)).map .str),sS ch.p,none]) (b::r) bu (λc=>decide (c.p=ch.p)) bu (by simp) (by omega) λc hc=>⟨_,rfl,dD (bX (.str c.p) (.str ch.p) (bX (bu c) (.int 1) (by simp[dq]) rfl (NU c)) (by simp[dq]) (by simp)),λ_=>⟨false,by simp[dq]⟩⟩;obtain⟨b2,O,hf⟩:∃b2 O,(b::r).filter (λc=>decide (c.p=ch.p))=b2::O:=by
    cases hq:(b::r).filter (λc=>decide (c.p=ch.p)) with
    |nil=>
     have:=List.filter_eq_nil_iff.mp hq _ U;simp[ch]at this
    |cons b2 O=>exact⟨b2,O,rfl⟩
   rw[hf]at h6 ⊢;refine aK M (jC (.str ch.p) (aN [.lst ((b::r).map bu),.str rl] (bY (by simp) (aS (G _ rfl) rfl)) (GS rl b r)) rfl (jC (bu (nW b2 O)) (GQ (bb:=true) h6) (nU _) (ay (aN [.str "one",.str ch.p,.int (nW b2 O).n] (bY rfl (bY rfl (aS (bX (bu (nW b2 O)) (.int 4) rfl rfl (QA _)) rfl))) (cz _ (by simp))))))
def Ln:D->D
 |.tup ds=>.tup (iR ds none (some 2))
 |d=>d
def ki (cs:List Cl)(o rl p:Str)(day:Int):Bool:=dc (Ln (kh cs o rl day)) (.tup [.str "one",.str p])
def Bq (n:Nat)(zs:LS):(zs.map D.str).all (aH n)=true:=by
 induction zs with
 |nil=>rfl
 |cons a l G=>simp
def Ek (rl:Str)(G:List Cl):∃ds,pQ rl G=.tup ds/\ds.all (aH 5)=true:=by
 cases G with
 |nil=>exact⟨_,rfl,by simp⟩
 |cons b r=>
  rw[pQ];split
  ·exact⟨_,rfl,by simp only[all_cons,all_nil,aH,Bool.and_true,Bool.true_and];exact Bq _ _⟩
  ·exact⟨_,rfl,by simp⟩
def GU (h:ds.all (aH 5)=true):(iR ds lo hi).all (aH 5)=true:=by
 rw[all_eq_true]at h ⊢;exact λd hd=>h d (List.mem_of_mem_drop (List.mem_of_mem_take hd))
def wo (h:ds.all (aH 5)=true):aH 40 (.tup ds)=true:=g9 6 40 _ (by decide) (by simpa only[aH]using h)
def CO (cs:List Cl)(hl:cs.length<=60)(p:Str)(day:Int):dC [.lst (cs.map bu),row h ("root" : Str) [.str o,.int m,.int f,.str rl],.str p,.int day]=sO (ki cs o rl p day):=by
 have hb:=nX cs hl (h:=h) (o:=o) (rl:=rl) (m:=m) (f:=f) day;obtain⟨ds,e,hd⟩:=Ek rl (NV cs o day);have G:kh cs o rl day=.tup ds:=e;refine aw rfl (ay (bX (Ln (kh cs o rl day)) (.tup [.str "one",.str p]) ?_ (by simp[sizeLine]) ?_))
 ·have hc:=bG (F:=eE) (fa:=fV 0 (fV 1 (fV 3 aj))) (ρ:=[sL (cs.map bu),some (row h ("root" : Str) [.str o,.int m,.int f,.str rl],false),sS p,sI day]) (ds:=[.lst (cs.map bu),row h ("root" : Str) [.str o,.int m,.int f,.str rl],.int day]) rfl hb;rw[G]at hc ⊢;show tT (fA eE (fV 0 (fV 1 (fV 3 aj)))) fF (dI (fI 2)) _=_;unfold tT;rw[show(List.map (λd=>some (d,false)) [D.lst (cs.map bu),row h ("root" : Str) [.str o,.int m,.int f,.str rl],.str p,.int day]++List.replicate 0 none:DL.Env)=[sL (cs.map bu),some (row h ("root" : Str) [.str o,.int m,.int f,.str rl],false),sS p,sI day]from rfl,hc];rfl
 ·unfold ki dj;rw[if_pos];rw[G];exact⟨wo (GU hd),wo (by simp)⟩
noncomputable def aV (j:Nat):D->Str
 |.tup [_,.tup (_::ax)]=>match ax[j]? with
  |some (.str s)=>s
  |_=>("" : Str)
 |_=>("" : Str)
noncomputable def kj (j:Nat):D->Int
 |.tup [_,.tup (_::ax)]=>match ax[j]? with
  |some (.int s)=>s
  |_=>0
 |_=>0
def Cd.root_of (h:Cd ("root" : Str) r):∃o rl,∃m f:Int,r=[.str o,.int m,.int f,.str rl]:=by
 generalize hk:("root" : Str)=k at h;cases h with
 |root o rl m f=>exact⟨o,rl,m,f,rfl⟩
 |named=>exact jp hk
 |three _ hh=>rcases hh with rfl|rfl|rfl<;>exact jp hk
 |other _ hh=>rcases hh with rfl|rfl|rfl|rfl|rfl<;>exact jp hk
def El {κ α:Type}[DecidableEq κ]{ks:List κ}{k:κ}{x y:α}:∀ {xs:List α},y∈eY ks xs k x->y=x∨y∈xs:=by
 intro xs h;unfold eY at h;split at h
 ·rename_i G;clear G;induction ks generalizing xs with
  |nil=>simp at h
  |cons a ks M=>
   cases xs with
   |nil=>simp at h
   |cons b xs=>
    rw[zipWith_cons_cons,mem_cons]at h;rcases h with h|h
    ·split at h
     ·exact .inl h
     ·exact .inr (by rw[h];exact mX)
    ·rcases M h with h|h
     ·exact .inl h
     ·exact .inr (mZ _ h)
 ·rcases mem_append.mp h with h|h
  ·exact .inr h
  ·exact .inl (uT h)
theorem wt:∀(l:List (eK×D))(a:LK×LD)(y:D),y∈(l.foldl r6 a).2->y∈a.2∨∃p∈l,p.2=y
 |[],a,y,h=>.inl h
 |p::l,a,y,h=>by
  rw[foldl_cons]at h;rcases wt l _ y h with h|⟨q,hq,e⟩
  ·rcases El (show y∈eY a.1 a.2 p.1 p.2 from h)with h|h
   ·exact .inr ⟨p,mX,h.symm⟩
   ·exact .inl h
  ·exact .inr ⟨q,mZ _ hq,e⟩
theorem wu {α:Type}(f:α->Str)(g:α->D):∀(l:List α),jj (l.map λx=>D.tup [.str (f x),g x])=some (l.map λx=>(.inr (f x),g x))
 |[]=>rfl
 |x::l=>by
  rw[uY,jj,wu f g l];rfl
theorem zJ {κ:Type}[DecidableEq κ]:∀ {ks:List κ}{vs:LD}{k:κ}{v:D},fU ks vs k=some v->v∈vs
 |k'::ks,d::ds,k,v,h=>by
  unfold fU at h;split at h
  ·cases h;exact mX
  ·exact mZ _ (zJ h)
 |[],_,_,_,h=>by simp[fU]at h
 |_::_,[],_,_,h=>by simp[fU]at h
noncomputable def nY (KL:List (D×Nat)):List (eK×D):=(KL.filter λx=>bp x.1).map λx=>(.inr (aV 0 x.1),x.1)
def zK (KL:List (D×Nat))(o:Str):Option D:=fU (cb (nY KL)).1 (cb (nY KL)).2 (.inr o)
def tj (g:xR r)(h:bp r=true):∃a o rl,∃m f:Int,r=row a ("root" : Str) [.str o,.int m,.int f,.str rl]:=by
 obtain⟨a,k,ax,rfl,d⟩:=g;have hk:k = "root":=PN h;subst hk;obtain⟨o,rl,m,f,rfl⟩:=d.root_of;exact⟨a,o,rl,m,f,rfl⟩
def dJ (g:gQ af)(hx:x∈av af ae):mD af (x.2:Int)=some x.1/\xR x.1:=⟨bT (bI hx),g.2 _ (vL (bI hx))⟩
def zL (g:gQ af)(h:zK (av af ae) o=some v):∃a G rl,∃m f:Int,v=row a ("root" : Str) [.str G,.int m,.int f,.str rl]:=by
 have hv:=zJ h;rcases wt _ ([],[]) v hv with h|⟨p,hp,e⟩
 ·cases h
 ·obtain⟨x,hx,rfl⟩:=vO hp;obtain⟨h1,h2⟩:=vN hx;rw[←e];exact tj (dJ g h1).2 h2
def tm (g:gQ af)(ae:Int):gJ [.tup af,.int ae]=sF (.dk (cb (nY (av af ae))).1 (cb (nY (av af ae))).2):=by
 have hl:=cD af ae;have M:=g.1;have h1:=px (fi:=bM (fA cE (fV 0 (fV 1 aj)))) (nT:=1) (cap:=[0]) (tg:=cU 0) (fe:=f2 bK (am 1) (am 0)) (ρ:=[sT af,sI ae,none]) (av af ae) (λx=>.int x.2) Prod.fst
  (by
   show(fA cE (fV 0 (fV 1 aj)) _).bind _=_;rw[aN [.tup af,.int ae] rfl (lm af g.rp g.le ae)];rfl) (by omega) λx hx=>by
   have ha:=(dJ g hx).1;exact⟨_,rfl,false,by simp[dq,ha]⟩
 have hn:bD ((av af ae).map Prod.fst)=true:=cf λd hd=>by
  obtain⟨x,hx,rfl⟩:=vO hd;exact(dJ g hx).2.rp.flat
 have h2:=fW (fi:=bM (am 2)) (nT:=1) (cap:=[]) (tg:=cU 0) (c:=aT (f2 dj (fA a9 (fV 0 aj)) (fS "root"))) (fe:=fA aX (ag (fA au (fV 0 (ag (fS "office") aj))) (fV 0 aj)))
  (ρ:=[sT af,sI ae,lT ((av af ae).map Prod.fst)]) (av af ae) Prod.fst (λx=>bp x.1) (λx=>.tup [.str (aV 0 x.1),x.1]) (by simp) (by omega) λx hx=>by
   have G:=(dJ g hx).2;refine⟨_,rfl,ci (a:=kindOf x.1) (bb:=false) (aN [x.1] rfl (iN G)) rfl,λhp=>⟨false,?_⟩⟩;obtain⟨a,o,rl,m,f,e⟩:=tj G hp;refine aN [.str (aV 0 x.1),x.1] (bY (aN [x.1,.str "office"] rfl ?_) rfl) (cz _ (by simp));rw[e];exact lr
 refine aw rfl (cG (ds:=(av af ae).map Prod.fst) h1 hn (ay (aN [.lst (((av af ae).filter λx:D×Nat=>bp x.1).map λx:D×Nat=>D.tup [.str (aV 0 x.1),x.1])] (aS h2 rfl) ?_)));rw[jO,wu (λx:D×Nat=>aV 0 x.1) Prod.fst];rfl
def Br:D×Nat->List (D×Nat)->D×Nat
 |b,[]=>b
 |b,x::r=>if bv (kA x) (kA b)=some true then Br x r else Br b r
theorem xV:∀(r:List (D×Nat))(b:D×Nat),lN (kA b,.int b.2) (r.map λx=>(kA x,D.int x.2))=.int (Br b r).2
 |[],b=>rfl
 |x::r,b=>by
  rw[uY,lN,Br];split
  ·exact xV r x
  ·exact xV r b
def xW (KL:List (D×Nat))(p:Str)(day:Int)(i:Nat):Bool:=match KL.filter (λx=>told fL p day x.1) with
 |[]=>false
 |b::r=>decide ((Br b r).2=i)
def GV (g:gQ af)(ae:Int)(hx:x∈av af ae)(e:x.1=row a ("death" : Str) [.int d,.str p]):gs [.tup af,.int ae,.int x.2]=sO (xW (av af ae) p d x.2):=by
 have ha:=(dJ g hx).1;have gx:=(dJ g hx).2;have ht:=xP af g.rp g.le ae fL jT p d;have M:au [x.1,.str "person"]=sS p:=by rw[e];exact bA (i:=1) cC rfl
 have O:aQ [x.1]=sI d:=by rw[e];exact jB (.inl (by decide +kernel)) rfl
 have G:x∈qc af ae fL p d:=mem_filter.mpr ⟨hx,by rw[e];simp[told,row,fL,CJ]⟩;have XB:xW (av af ae) p d x.2=match qc af ae fL p d with|[]=>false|b::r=>decide ((Br b r).2=x.2):=rfl
 have T:∀y∈qc af ae fL p d,∃h k dd,af[y.2]? = some (row h k [.int dd,.str p])/\y.1=row h k [.int dd,.str p]/\cW k=true:=λy hy=>by
  obtain⟨U,Tg⟩:=CK hy;obtain⟨h,k,dd,e2,h3,_⟩:=sM jT (g.rp _ (vL U)) Tg;exact⟨h,k,dd,by rw[U,e2],e2,h3⟩
 rw[XB];cases hs:qc af ae fL p d with
 |nil=>rw[hs]at G;cases G
 |cons b r=>
  rw[hs]at ht T;have hm:∀ρ:DL.Env,ρ[0]? = some (sT af)->j4 (rm [0] (fA fz (fV 1 (fV 0 aj))) ρ) ((b::r).map λy=>.int y.2)=some ((b::r).map λy=>.tup [.int (aY y.1),.int y.2]):=λρ h0=>
   iM (b::r) λy hy=>by
    obtain⟨h,k,dd,U,e2,h3⟩:=T y hy;show(fA fz _ _).map _=_;rw[aN [.tup af,.int y.2] (by simp[dq,h0]) (CL U h3),e2];rfl
  have hk:dO ((b::r).map λy=>D.tup [.int (aY y.1),.int y.2])=some ((b::r).map kA):=iz _ λy _=>rfl;have hz:((b::r).map kA).zip ((b::r).map λy=>D.int y.2)=(kA b,D.int b.2)::r.map λy=>(kA y,D.int y.2):=by rw[zip_map'];rfl
  have KA:bD ((b::r).map λy=>D.int y.2)=true:=cf λd hd=>by obtain⟨y,_,rfl⟩:=vO hd;rfl
  refine aw rfl (jC x.1 (by simp[ha]) gx.rp.flat (cG (ds:=(b::r).map λy=>.int y.2) (aN [.tup af,.int ae,.tup (fL.map .str),.str p,.int d] (bY rfl (bY rfl (bY (aN [.str "death"] rfl (cz _ (by simp))) (aS (aN [x.1,.str "person"] rfl M) (aS (aN [x.1] rfl O) rfl))))) ht) KA (ay (bX (.int (Br b r).2) (.int x.2) ?_ rfl ?_))))
  ·unfold vk MD;show((some (D.lst ((b::r).map λy=>D.int y.2),false)).bind _)=_;rw[vJ];dsimp only;rw[hm _ rfl,vJ,hk,vJ,if_pos (xQ _),hz];show some (lN _ _,false)=_;rw[xV]
  ·rw[C5];congr 3;apply decide_eq_decide.mpr;omega
abbrev KL:=List (D×Nat)
noncomputable def Em:LS:=[("named" : Str),"chosen","heir"]
def fM (K:KL)(x:D×Nat):Bool :=
 if kindOf x.1 = "death" then xW K (aV 1 x.1) (aY x.1) x.2
 else if kindOf x.1 = "named" then (zK K (aV 1 x.1)).isSome
 else false
def En (g:gQ af)(ae:Int)(so:List Cl)(hx:x∈av af ae)(M:bp x.1=false):nD [.tup af,.int ae,.lst (so.map bu),.int x.2]=sO (fM (av af ae) x):=by
 obtain⟨ha,O⟩:=dJ g hx;have hf:bC x.1=true:=O.rp.flat;have hw:∀ρ:DL.Env,ρ[4]? = some (some (x.1,false))->fA a9 (fV 4 aj) ρ=sS (kindOf x.1):=λρ h4=>aN [x.1] (by simp[h4]) (iN O);have G:∀ρ:DL.Env,ρ[4]? = some (some (x.1,false))->aT (f2 df (fA a9 (fV 4 aj)) (fA aX (ag (fS "named") (ag (fS "chosen") (ag (fS "heir") aj))))) ρ=some (!decide (kindOf x.1∈Em)):=λρ h4=>
  dD (bX (.str (kindOf x.1)) (.tup (Em.map .str)) (hw ρ h4) (by simp[sizeLine,Em]) (pN _ _))
 by_cases hd:kindOf x.1 = "death"
 ·obtain⟨a,k,ax,e,d⟩:=O;have hk:k = "death":=by rw[e]at hd;exact hd
  subst hk;obtain⟨dd,p,rfl⟩:=d.deed.three (by decide +kernel);have hc:fM (av af ae) x=xW (av af ae) p dd x.2:=by
   unfold fM;rw[if_pos hd,e];rfl
  rw[hc];exact aw rfl (jC x.1 (by simp[ha]) hf (bF (ci (bb:=false) (hw _ rfl) (Aq hd)) (ay (aN [.tup af,.int ae,.int x.2] rfl (GV g ae hx e)))))
 ·by_cases hn:kindOf x.1 = "named"
  ·have h3:kindOf x.1∈Em:=by rw[hn];decide +kernel
   have T:au [x.1,.str "office"]=sS (aV 1 x.1):=by
    obtain⟨a,k,ax,e,d⟩:=O;rw[e]at hn ⊢;replace hn:k = "named":=hn;cases d with
    |named d o p=>exact bA (i:=1) cC rfl
    |root=>exact jp hn
    |three _ hk=>rcases hk with rfl|rfl|rfl<;>exact jp hn
    |other _ hk=>rcases hk with rfl|rfl|rfl|rfl|rfl<;>exact jp hn
   have U:∀ρ:DL.Env,ρ[0]? = some (sT af)->ρ[1]? = some (sI ae)->ρ[4]? = some (some (x.1,false))->f2 Gj (fA gJ (fV 0 (fV 1 aj))) (fA au (fV 4 (ag (fS "office") aj))) ρ=some ((zK (av af ae) (aV 1 x.1)).getD .non,false):=λρ q0 q1 q4=>
    bX (.dk (cb (nY (av af ae))).1 (cb (nY (av af ae))).2) (.str (aV 1 x.1)) (aN [.tup af,.int ae] (by simp[q0,q1]) (tm g ae)) (aN [x.1,.str "office"] (by simp[q4]) T) rfl
   have hc:fM (av af ae) x=(zK (av af ae) (aV 1 x.1)).isSome:=by unfold fM;rw[if_neg hd,if_pos hn]
   rw[hc];cases hr:zK (av af ae) (aV 1 x.1) with
   |none=>
    rw[hr]at U;exact aw rfl (jC x.1 (by simp[ha]) hf (aK (ci (bb:=false) (hw _ rfl) (PK hd)) (aK (by rw[G _ rfl,Aq h3];rfl) (jC .non (U _ rfl rfl rfl) rfl (bF (dD (bX .non .non rfl rfl (by simp))) (ay rfl))))))
   |some v=>
    rw[hr]at U;obtain⟨va,vo,Yl,vm,vf,ev⟩:=zL g hr;have XC:bC v=true:=by rw[ev];rfl
    have XD:As v .non=sO false:=by rw[ev];simp[row]
    exact aw rfl (jC x.1 (by simp[ha]) hf (aK (ci (bb:=false) (hw _ rfl) (PK hd)) (aK (by rw[G _ rfl,Aq h3];rfl) (jC v (U _ rfl rfl rfl) XC (aK (dD (bX v .non rfl rfl XD)) (bF (ci (bb:=false) (hw _ rfl) (Aq hn)) (ay rfl)))))))
  ·have hc:fM (av af ae) x=false:=by unfold fM;rw[if_neg hd,if_neg hn]
   have h3:kindOf x.1∉Em:=by
    obtain⟨a,k,ax,e,d⟩:=O;rw[e]at hn M ⊢;show k∉Em;cases d with
    |named d o p=>exact absurd rfl hn
    |root=>cases M
    |three _ hk=>rcases hk with rfl|rfl|rfl<;>decide +kernel
    |other _ hk=>rcases hk with rfl|rfl|rfl|rfl|rfl<;>decide +kernel
   rw[hc];exact aw rfl (jC x.1 (by simp[ha]) hf (aK (ci (bb:=false) (hw _ rfl) (PK hd)) (bF (by rw[G _ rfl,PK h3];rfl) (ay rfl))))
def gB (G:LS)(p:Str)(day:Int)(c:Cl):List Cl :=
 if(!decide (c.o∈G) || (!decide (c.p=p) || !(iO c day || decide (day<c.s))))=true then [c]else if c.s<day then [⟨c.o,p,c.s,some day,c.n⟩]else []
noncomputable def cH (so:List Cl)(G:LS)(p:Str)(day:Int):List Cl:=so.flatMap (gB G p day)
theorem jU (G:LS)(p:Str)(day:Int):∀so:List Cl,(cH so G p day).length<=so.length
 |[]=>vT _
 |c::so=>by
  unfold cH;rw[flatMap_cons,uZ,vE];have h1:=jU G p day so;have h2:(gB G p day c).length<=1:=by
   unfold gB;split
   ·simp
   ·split<;>simp
  unfold cH at h1;omega
def Bt (k:Str)(G:LS):df (.str k) (.lst (G.map .str))=sO (!decide (k∈G)):=by
 simp only[df,gM,vJ,nO];rw[if_pos ⟨rfl,lG G⟩]
def GW (so:List Cl)(Qu:so.length<=60)(G:LS)(p:Str)(day:Int):xM [.lst (so.map bu),.lst (G.map .str),.str p,.int day]=lT ((cH so G p day).map bu):=by
 obtain⟨ρ',e,U,rfl⟩:=eZ (tg:=cU 5) (g:=sq) (λj ρ=>∃U:OB,ρ=[sL (so.map bu),sL (G.map .str),sS p,sI day,lT ((cH (so.take j) G p day).map bu),U]) (so.map bu)
  [sL (so.map bu),sL (G.map .str),sS p,sI day,lT [],none] ⟨none,rfl⟩ (by
   rintro j d ρ hd ⟨U,rfl⟩;rw[vA]at hd;obtain⟨c,hc,rfl⟩:=oY hd;have hj:j<so.length:=(vV hc).1;have et:cH (so.take (j+1)) G p day=cH (so.take j) G p day++gB G p day c:=by
    unfold cH;rw[take_add_one,hc,toList_some,List.flatMap_append,flatMap_cons,List.flatMap_nil,uQ]
   have lu:(cH (so.take j) G p day).length<=60:=vR (jU G p day _) (by rw[length_take];omega);let O:DL.Env:=[sL (so.map bu),sL (G.map .str),sS p,sI day,lT ((cH (so.take j) G p day).map bu),some (bu c,false)];have q0:cj 5 0 O=sS c.o:=bX (bu c) (.int 0) rfl rfl (Pu c);have q1:cj 5 1 O=sS c.p:=bX (bu c) (.int 1) rfl rfl (NU c);have q2:cj 5 2 O=sI c.s:=bX (bu c) (.int 2) rfl rfl (Q9 c);have q4:cj 5 4 O=sI c.n:=bX (bu c) (.int 4) rfl rfl (QA c);have M:dQ (aT (f2 df (cj 5 0) (am 1))) (dQ (aT (f2 xa (cj 5 1) (am 2))) (bU (dQ (aT (fA cS (fV 5 (fV 3 aj)))) (aT (f2 EC (cj 5 2) (am 3)))))) O=some (!decide (c.o∈G) || (!decide (c.p=p) || !(iO c day || decide (day<c.s)))) :=
    ee (dD (bX (.str c.o) (.lst (G.map .str)) q0 rfl (Bt _ _))) λ_=>ee (dD (bX (.str c.p) (.str p) q1 rfl (by simp))) λ_=>bN (ee (dD (aN [bu c,.int day] rfl (sR c day))) λ_=>dD (bX (.int c.s) (.int day) q2 rfl (by simp)))
   by_cases h1:(!decide (c.o∈G) || (!decide (c.p=p) || !(iO c day || decide (day<c.s))))=true
   ·have T:gB G p day c=[c]:=by unfold gB;rw[if_pos h1]
    rw[h1]at M;refine⟨_,_,rfl,.inl (xK M (oD (ds:=(cH (so.take j) G p day).map bu) (d:=bu c) (b:=false) rfl rfl (nU c) (cR (by simp;omega)))),some (bu c,false),?_⟩;rw[et,T,uW];rfl
   ·rw[Bool.not_eq_true]at h1;rw[h1]at M;by_cases h2:c.s<day
    ·have T:gB G p day c=[⟨c.o,p,c.s,some day,c.n⟩]:=by unfold gB;rw[if_neg (by rw[h1];decide),if_pos h2]
     refine⟨_,_,rfl,.inl (nn M (xK (dD (bX (.int c.s) (.int day) q2 rfl (by simp[h2]))) (oD (ds:=(cH (so.take j) G p day).map bu) (d:=bu ⟨c.o,p,c.s,some day,c.n⟩) (b:=false) rfl (aN [.str c.o,.str p,.int c.s,.int day,.int c.n] (aS q0 (bY rfl (aS q2 (bY rfl (aS q4 rfl))))) (cz _ (by simp))) (nU _) (cR (by simp;omega))))),some (bu c,false),?_⟩;rw[et,T,uW];rfl
    ·have T:gB G p day c=[]:=by unfold gB;rw[if_neg (by rw[h1];decide),if_neg h2]
     refine⟨_,_,rfl,.inl (nn M (nn (dD (bX (.int c.s) (.int day) q2 rfl (by simp;omega))) rfl)),some (bu c,false),?_⟩;rw[et,T,uQ];rfl)
 have e':gV (cU 5) sq (so.map bu) [sL (so.map bu),sL (G.map .str),sS p,sI day,lT [],none]=some (.nx [sL (so.map bu),sL (G.map .str),sS p,sI day,lT ((cH so G p day).map bu),U]):=by
  rw[e];have:so.take (so.map bu).length=so:=by rw[vI,take_length]
  rw[this]
 exact aw rfl (cG (ds:=[]) (by simp[sizeLine]) rfl (dP (gI (ds:=so.map bu) (by simp[gU]) e') (lB rfl)))
def Px (G:au [r,.str "office"]=sS o)(hp:au [r,.str "person"]=sS p)(s:Int)(n:Nat):iY [r,.int s,.int n]=some (bu ⟨o,p,s,none,n⟩,false) :=
 aw rfl (ay (aN [.str o,.str p,.int s,.non,.int n] (aS (aN [r,.str "office"] rfl G) (aS (aN [r,.str "person"] rfl hp) rfl)) (cz _ (by simp))))
def CP (so:List Cl)(p:Str)(day:Int):LS:=kH (ga ((so.filter λc=>decide (c.p=p) && iO c day).map (·.o)))
def xX (g:gQ af)(ae:Int)(so:List Cl)(Qu:so.length<=60)(hx:x∈av af ae)(e:x.1=row a ("death" : Str) [.int d,.str p]):
  la [.tup af,.int ae,.lst (so.map bu),.dt [] [],.int x.2]=lT []:=by
 have ha:=(dJ g hx).1;have G:au [x.1,.str "person"]=sS p:=by rw[e];exact bA (i:=1) cC rfl
 have M:aQ [x.1]=sI d:=by rw[e];exact jB (.inl (by decide +kernel)) rfl
 obtain⟨ρ',e',U,O,rfl⟩:=eZ (tg:=cU 8) (g:=nE) (λj ρ=>∃U O:OB,ρ=[sT af,sI ae,sL (so.map bu),sF (.dt [] []),sI x.2,sS p,sI d,lT [],U,O]) ((CP so p d).map .str)
  [sT af,sI ae,sL (so.map bu),sF (.dt [] []),sI x.2,sS p,sI d,lT [],none,none] ⟨none,none,rfl⟩ (by
   rintro j dd ρ hd ⟨U,O,rfl⟩;rw[vA]at hd;obtain⟨o,ho,rfl⟩:=oY hd;have eg:G1 (am 3) (fV 8 (fV 5 aj)) [sT af,sI ae,sL (so.map bu),sF (.dt [] []),sI x.2,sS p,sI d,lT [],sS o,O]=sF .non:=by
    simp[jP,sizeLine,fU]
   exact⟨_,_,rfl,.inl (jC .non eg rfl (nn (ft (p:=false) (q:=false) (dD (by simp)) (by simp)) rfl)),_,_,rfl⟩)
 have T:∀ρ:DL.Env,ρ[2]? = some (sL (so.map bu))->ρ[5]? = some (sS p)->ρ[6]? = some (sI d)->bM (f1 fJ (bO (bM (am 2)) 1 [5,6] (cU 0) (eU (aT (f2 dj (cj 0 1) (am 1))) (aT (fA cS (fV 0 (fV 2 aj))))) (cj 0 0))) ρ=some ((CP so p d).map .str):=λρ q2 q5 q6=>by
  have hc:=fW (fi:=bM (am 2)) (nT:=1) (cap:=[5,6]) (tg:=cU 0) (c:=eU (aT (f2 dj (cj 0 1) (am 1))) (aT (fA cS (fV 0 (fV 2 aj))))) (fe:=cj 0 0) (ρ:=ρ) so bu (λc=>decide (c.p=p) && iO c d) (λc=>.str c.o) (by simp[q2]) (by omega) λc hc=>
   ⟨_,rfl,ft (dD (bX (.str c.p) (.str p) (bX (bu c) (.int 1) (by simp[dq]) rfl (NU c)) (by simp[dq,q5]) (by simp))) λ_=>dD (aN [bu c,.int d] (by simp[dq,q6]) (sR c d)),λ_=>⟨false,bX (bu c) (.int 0) (by simp[dq]) rfl (Pu c)⟩⟩
  have e2:(so.filter λc=>decide (c.p=p) && iO c d).map (λc=>D.str c.o)=((so.filter λc=>decide (c.p=p) && iO c d).map (·.o)).map .str:=by rw[uP];rfl
  rw[e2]at hc;show(f1 fJ _ ρ).bind _=_;unfold f1;rw[hc,vJ];have XE:((so.filter λc=>decide (c.p=p) && iO c d).map (·.o)).length<64:=by rw[vI];exact lt_of_le_of_lt (vM _ _) (by omega)
  show((jZ _).bind _).bind _=_;rw[sZ,vJ,if_pos XE];rfl
 refine aw rfl (jC (.str p) (aN [x.1,.str "person"] (by simp[ha]) G) rfl (jC (.int d) (aN [x.1] (by simp[ha]) M) rfl (cG (ds:=[]) (by simp[sizeLine]) rfl (dP (ρ':=[sT af,sI ae,sL (so.map bu),sF (.dt [] []),sI x.2,sS p,sI d,lT [],U,O]) ?_ (lB rfl)))));exact gI (ρ:=[sT af,sI ae,sL (so.map bu),sF (.dt [] []),sI x.2,sS p,sI d,lT [],none,none]) (T _ rfl rfl rfl) e'
def GX (g:gQ af)(ae:Int)(so:List Cl)(M:so.length<=60)(hx:x∈av af ae)(e:x.1=row a ("death" : Str) [.int d,.str p]):
  jm [.tup af,.int ae,.lst (so.map bu),.dt [] [],.int x.2]=lT ((cH so (so.map Cl.o) p d).map bu):=by
 have ha:=(dJ g hx).1;have G:au [x.1,.str "person"]=sS p:=by rw[e];exact bA (i:=1) cC rfl
 have O:aQ [x.1]=sI d:=by rw[e];exact jB (.inl (by decide +kernel)) rfl
 have h1:=px (fi:=bM (am 2)) (nT:=1) (cap:=[]) (tg:=cU 0) (fe:=cj 0 0) (ρ:=[sT af,sI ae,sL (so.map bu),sF (.dt [] []),sI x.2,none,none]) so bu (λc=>.str c.o) (by simp) (by omega) λc hc=>⟨_,rfl,false,bX (bu c) (.int 0) (by simp[dq]) rfl (Pu c)⟩;have e2:so.map (λc=>D.str c.o)=(so.map Cl.o).map .str:=by rw[uP];rfl
 rw[e2]at h1;have T:=jU (so.map Cl.o) p d so;refine aw rfl (cG (ds:=(so.map Cl.o).map .str) h1 (cL _) (cG (ds:=(cH so (so.map Cl.o) p d).map bu) (aN [.lst (so.map bu),.lst ((so.map Cl.o).map .str),.str p,.int d] (bY rfl (bY rfl (bY (aN [x.1,.str "person"] (by simp[ha]) G) (bY (aN [x.1] (by simp[ha]) O) rfl)))) (GW so M _ p d)) (nV _) (ay ?_)));refine cK (x:=.lst ((cH so (so.map Cl.o) p d).map bu)) (y:=.lst []) (b1:=false) (b2:=true) rfl (aN [.tup af,.int ae,.lst (so.map bu),.dt [] [],.int x.2] rfl (xX g ae so M hx e)) ?_;show(if((cH so (so.map Cl.o) p d).map bu).length+([]:LD).length<=sizeLine then some (D.lst ((cH so (so.map Cl.o) p d).map bu++[]),true)else none)=_;rw[if_pos (eA (by rw[vI,length_nil];omega)),uQ]
def pR (K:KL)(so:List Cl)(x:D×Nat):List Cl :=
 if fM K x=true then
  if kindOf x.1 = "named" then so++[⟨aV 1 x.1,aV 2 x.1,aY x.1,none,x.2⟩]
  else cH so (so.map Cl.o) (aV 1 x.1) (aY x.1)
 else so
def dn (K:KL):KL:=eN (λx=>cQ (kA x)) (K.filter λx=>!bp x.1)
noncomputable def pT (K:KL)(l:KL):List Cl:=l.foldl (pR K) []
noncomputable def kC (c:Cl):List At:=[.s c.o,.i c.s,.i c.n]
def bB (K:KL):List Cl:=eN (λc=>cQ (kC c)) (pT K (dn K))
structure E7 (l:KL)(so:List Cl):Prop where
 len:so.length<=l.length
 nod:(so.map λc=>(c.o,c.n)).Nodup
 num:∀c∈so,c.n∈l.map (·.2)
theorem oP (G:LS)(p:Str)(day:Int):∀so:List Cl,((cH so G p day).map λc=>(c.o,c.n)).Sublist (so.map λc=>(c.o,c.n))
 |[]=>List.Sublist.slnil
 |c::so=>by
  have M:=oP G p day so;unfold cH at M ⊢;rw[flatMap_cons,uW,uY];have:((gB G p day c).map λc=>(c.o,c.n))=[(c.o,c.n)]∨((gB G p day c).map λc=>(c.o,c.n))=[]:=by
   unfold gB;split
   ·exact .inl rfl
   ·split
    ·exact .inl rfl
    ·exact .inr rfl
  rcases this with h|h
  ·rw[h];exact M.cons₂ _
  ·rw[h];exact M.cons _
def Eo (h:c∈cH so offs p day):∃G∈so,G.o=c.o/\G.n=c.n:=by
 have:=(oP offs p day so).subset (uS ⟨c,h,rfl⟩);obtain⟨G,h1,h2⟩:=vO this;injection h2 with h3 h4;exact⟨G,h1,h3,h4⟩
def E7.step {K l:KL}{so:List Cl}(h:E7 l so){x:D×Nat}(hx:x.2∉l.map (·.2)):E7 (l++[x]) (pR K so x):=by
 have G:∀ {n:Nat},n∈l.map (·.2)->n∈(l++[x]).map (·.2):=λh=>by rw[uW];exact mem_append_left _ h
 have O:x.2∈(l++[x]).map (·.2):=by simp
 have U:(l++[x]).length=l.length+1:=by simp
 have M:=h.len;unfold pR;split
 ·split
  ·refine⟨by simp;omega,?_,λc hc=>?_⟩
   ·rw[uW,nodup_append];refine⟨h.nod,by simp,λa ha b hb e=>?_⟩;obtain⟨c,hc,rfl⟩:=vO ha;simp at hb;subst hb;injection e with _ e2;exact hx (e2 ▸ h.num c hc)
   ·rcases mem_append.mp hc with hc|hc
    ·exact G (h.num c hc)
    ·rw[uT hc];exact O
  ·have hl:=jU (so.map Cl.o) (aV 1 x.1) (aY x.1) so;refine⟨by omega,h.nod.sublist (oP _ _ _ _),λc hc=>?_⟩;obtain⟨T,h1,_,h3⟩:=Eo hc;rw[←h3];exact G (h.num T h1)
 ·exact⟨by omega,h.nod,λc hc=>G (h.num c hc)⟩
def RG (a b:Cl):(bv (kC a) (kC b)).isSome=true:=by
 unfold kC;rw[bv];split
 ·rw[bv];split
  ·rw[bv];split
   ·rw[bv];rfl
   ·rfl
  ·rfl
 ·rfl
def CQ (cs:List Cl):eO (cs.map kC)=true:=by
 unfold eO;simp[all_eq_true,RG]
theorem wv {α O:Type}(f:α->O):∀ {l:List α},(l.map f).Nodup->∀ {a b:α},a∈l->b∈l->f a=f b->a=b
 |[],_,_,_,ha,_,_=>by cases ha
 |c::l,h,a,b,ha,hb,e=>by
  rw[uY,nodup_cons]at h;rcases vP ha with M|ha1
  ·rcases vP hb with G|hb1
   ·rw[M,G]
   ·exact absurd (uS ⟨b,hb1,by rw[←e,M]⟩) h.1
  ·rcases vP hb with G|hb1
   ·exact absurd (uS ⟨a,ha1,by rw[e,G]⟩) h.1
   ·exact wv f h.2 ha1 hb1 e
def GY {cs:List Cl}{a b:Cl}(ha:a∈cs)(hb:b∈cs)(e:cQ (kC a)=cQ (kC b)):(a.o,a.n)=(b.o,b.n):=by
 have h:=o9 (CQ cs) (uS ⟨a,ha,rfl⟩) (uS ⟨b,hb,rfl⟩) e;unfold kC at h;injection h with h1 h2;injection h1 with h1;injection h2 with _ h3;injection h3 with h3 _;injection h3 with h3;rw[h1,show a.n=b.n by omega]
def JP (g:gQ af)(ae:Int)(so:List Cl)(Qu:so.length<=60)(hx:x∈av af ae)(M:bp x.1=false)(v5:OB):
  ∃w5,(lF [sT af,sI ae,lT (so.map bu),some (.dt [] [],true),sI x.2,v5]=some (.nx [sT af,sI ae,lT ((pR (av af ae) so x).map bu),some (.dt [] [],true),sI x.2,w5])
   ∨ lF [sT af,sI ae,lT (so.map bu),some (.dt [] [],true),sI x.2,v5]=some (.ct [sT af,sI ae,lT ((pR (av af ae) so x).map bu),some (.dt [] [],true),sI x.2,w5])):=by
 obtain⟨ha,O⟩:=dJ g hx;have hf:bC x.1=true:=O.rp.flat;have ec:=En g ae so hx M;obtain⟨E,hE⟩:∃E:DL.Env,E=[sT af,sI ae,lT (so.map bu),some (.dt [] [],true),sI x.2,some (x.1,false)]:=⟨_,rfl⟩;have G:bU (aT (fA nD (fV 0 (fV 1 (fV 2 (fV 4 aj)))))) E=some (!fM (av af ae) x):=by
  rw[hE];exact bN (dD (aN [.tup af,.int ae,.lst (so.map bu),.int x.2] (by simp) ec))
 have hw:fA a9 (fV 5 aj) E=sS (kindOf x.1):=by rw[hE];exact aN [x.1] rfl (iN O)
 refine⟨some (x.1,false),?_⟩;unfold pR;subst hE;cases hc:fM (av af ae) x with
 |false=>
  rw[hc]at G;exact .inr (jC x.1 (by simp[ha]) hf (RE (xK G rfl)))
 |true=>
  rw[hc]at G;left;rw[if_pos rfl];refine jC x.1 (by simp[ha]) hf (dP (nn G rfl) ?_);by_cases hn:kindOf x.1 = "named"
  ·rw[if_pos hn];refine xK (ci (bb:=false) hw (Aq hn)) ?_;have T:au [x.1,.str "office"]=sS (aV 1 x.1)/\au [x.1,.str "person"]=sS (aV 2 x.1):=by
    obtain⟨a,k,ax,e,d⟩:=O;rw[e]at hn ⊢;replace hn:k = "named":=hn;cases d with
    |named d o p=>exact⟨bA (i:=1) cC rfl,bA (i:=2) cC rfl⟩
    |root=>exact jp hn
    |three _ hk=>rcases hk with rfl|rfl|rfl<;>exact jp hn
    |other _ hk=>rcases hk with rfl|rfl|rfl|rfl|rfl<;>exact jp hn
   have U:aQ [x.1]=sI (aY x.1):=by rw[wn O];unfold xS;rw[M];rfl
   have e2:f2 fw (am 2) (fA cx (ag (fA iY (fV 5 (ag (fA aQ (fV 5 aj)) (fV 4 aj)))) aj)) [sT af,sI ae,lT (so.map bu),some (.dt [] [],true),sI x.2,some (x.1,false)]=lT (so.map bu++[bu ⟨aV 1 x.1,aV 2 x.1,aY x.1,none,x.2⟩]):=by
    refine cK (x:=.lst (so.map bu)) (y:=.lst [bu ⟨aV 1 x.1,aV 2 x.1,aY x.1,none,x.2⟩]) (b1:=false) (b2:=true) rfl ?_ (if_pos (eA (by rw[vI,length_singleton];omega)));exact aN [bu ⟨aV 1 x.1,aV 2 x.1,aY x.1,none,x.2⟩] (aS (aN [x.1,.int (aY x.1),.int x.2] (bY rfl (bY (aN [x.1] rfl U) rfl)) (Px T.1 T.2 _ _)) rfl) (gA _ (by simp))
   have:=qt (i:=2) e2 (by have hq:=nV (so++[(⟨aV 1 x.1,aV 2 x.1,aY x.1,none,x.2⟩:Cl)]);rwa [uW]at hq);rw[uW];exact this
  ·rw[if_neg hn];have hd:kindOf x.1 = "death":=by
    unfold fM at hc;by_cases hd:kindOf x.1 = "death"
    ·exact hd
    ·rw[if_neg hd,if_neg hn]at hc;cases hc
   refine nn (ci (bb:=false) hw (PK hn)) (nn (ci (bb:=false) hw (PK (by rw[hd];decide +kernel))) (nn (ci (bb:=false) hw (PK (by rw[hd];decide +kernel))) (qt (i:=2) (aN [.tup af,.int ae,.lst (so.map bu),.dt [] [],.int x.2] (by simp) ?_) (nV _))));obtain⟨a,k,ax,e,d⟩:=O;have hk:k = "death":=by rw[e]at hd;exact hd
   subst hk;obtain⟨dd,p,rfl⟩:=d.deed.three (by decide +kernel);have:=GX g ae so Qu hx e;rw[this,e];rfl
theorem CS (K:KL):∀(l G:KL)(so:List Cl),E7 G so->((G++l).map (·.2)).Nodup->E7 (G++l) (l.foldl (pR K) so)
 |[],G,so,h,_=>by rw[uQ];exact h
 |x::l,G,so,h,hn=>by
  have hx:x.2∉G.map (·.2):=λhm=>by
   rw[uW,nodup_append]at hn;exact hn.2.2 _ hm x.2 (by simp) rfl
  have h':=h.step (K:=K) hx;have e:G++x::l=(G++[x])++l:=by simp
  rw[e]at hn ⊢;exact CS K l _ _ h' hn
def CT (K l:KL)(h:(l.map (·.2)).Nodup):E7 l (pT K l):=CS K l [] [] ⟨uN _,by simp,by simp⟩ h
def lH (h:(K.map (·.2)).Nodup):((dn K).map (·.2)).Nodup:=((bH _ _).map _).nodup_iff.mpr (List.Nodup.sublist (List.Sublist.map _ filter_sublist) h)
def Ep {af:LD}(g:gQ af)(ae:Int)(T:(dn (av af ae)).length<=60):sr [.tup af,.int ae]=lT ((bB (av af ae)).map bu)/\(bB (av af ae)).length<=60:=by
 have eL:eC [.tup af,.int ae]=lT ((dn (av af ae)).map λx=>.int x.2):=pO g ae;generalize hK:av af ae=K at T eL ⊢;have U:∀x∈dn K,x∈K/\bp x.1=false:=λx hx=>by
  obtain⟨h1,h2⟩:=vN ((bH _ _).mem_iff.mp hx);exact⟨h1,by simpa using h2⟩
 have NF:((dn K).map (·.2)).Nodup:=lH (by rw[←hK];exact eI af ae);obtain⟨ρ',e,v4,v5,rfl⟩:=eZ (tg:=cU 4) (g:=lF) (λj ρ=>∃v4 v5:OB,ρ=[sT af,sI ae,lT ((pT K ((dn K).take j)).map bu),some (.dt [] [],true),v4,v5]) ((dn K).map λx=>.int x.2)
  [sT af,sI ae,lT [],some (.dt [] [],true),none,none] ⟨none,none,rfl⟩ (by
   rintro j d ρ hd ⟨v4,v5,rfl⟩;rw[vA]at hd;obtain⟨x,hx,rfl⟩:=oY hd;have Ym:j<(dn K).length:=(vV hx).1;have et:(dn K).take (j+1)=(dn K).take j++[x]:=by rw[take_add_one,hx];rfl
   have ef:pT K ((dn K).take (j+1))=pR K (pT K ((dn K).take j)) x:=by rw[et];unfold pT;rw[foldl_append];rfl
   obtain⟨QX,Th⟩:=U x (vL hx);have h:=(CT K ((dn K).take j) (List.Nodup.sublist (List.Sublist.map _ (take_sublist _ _)) NF)).len;rw[length_take]at h;have G:=JP g ae (pT K ((dn K).take j)) (by omega) (x:=x) (by rw[hK];exact QX) Th v5;rw[hK]at G;obtain⟨w5,G⟩:=G;exact⟨_,_,rfl,G,sI x.2,w5,by rw[ef]⟩)
 have HX:(dn K).take ((dn K).map λx=>D.int x.2).length=dn K:=by rw[vI,take_length]
 rw[HX]at e;have M:=CT K (dn K) NF;generalize Qv:(pT K (dn K))=st at e M;have N7:st.length<=60:=by have:=M.len;omega
 have UR:bB K=eN (λc=>cQ (kC c)) st:=by unfold bB;rw[Qv]
 have hm:∀ρ:DL.Env,j4 (uh gP ρ) (st.map bu)=some (st.map λc=>.tup [.str c.o,.int c.s,.int c.n]):=λρ=>iM st λc _=>by
  show(gP [bu c]).map _=_;rw[xU];rfl
 have hk:dO (st.map λc=>D.tup [.str c.o,.int c.s,.int c.n])=some (st.map kC):=iz st λc _=>rfl;have O:(st.map kC).length<64/\eO (st.map kC)=true/\fK (st.map kC)=true/\((st.map kC).map cQ).Nodup:=by
  refine⟨by rw[vI];omega,CQ _,?_,?_⟩
  ·unfold fK;rw[Bool.or_eq_true];right;simp[all_eq_true,kC]
  ·rw[uP];have h1:st.Pairwise λa b=>(a.o,a.n)≠(b.o,b.n):=pairwise_map.mp M.nod;have h2:st.Pairwise λa b=>cQ (kC a)≠cQ (kC b):=by
    refine List.Pairwise.imp_of_mem ?_ h1;intro a b ha hb Dp e;exact Dp (GY ha hb e)
   exact pairwise_map.mpr h2
 have hz:(st.map kC).zip (st.map bu)=st.map λc=>(kC c,bu c):=by rw[zip_map']
 have key:((bB K).map λc=>(kC c,bu c))=eN (λp:List At×D=>cQ p.1) (st.map λc=>(kC c,bu c)):=by
  rw[UR];refine kI _ (λx hx y hy e=>?_) ((bH _ _).map _) ?_
  ·obtain⟨a,ha,rfl⟩:=vO hx;obtain⟨b,hb,rfl⟩:=vO hy;rw[wv (λc:Cl=>(c.o,c.n)) M.nod ha hb (GY ha hb e)]
  ·exact pairwise_map.mpr (ge _ _)
 refine⟨aw rfl (cG (ds:=[]) (by simp[sizeLine]) rfl (dP (ρ':=[sT af,sI ae,lT [],some (.dt [] [],true),none,none]) rfl (dP (gI (ds:=(dn K).map λx=>.int x.2) ?_ e) (ay ?_)))),by rw[UR,(bH _ _).length_eq];exact N7⟩
 ·show(fA eC (fV 0 (fV 1 aj)) _).bind _=_;rw[aN [.tup af,.int ae] rfl eL];rfl
 ·unfold rq;show((some (D.lst (st.map bu),false)).bind _)=_;simp only[vJ];rw[hm];simp only[vJ];rw[hk];simp only[vJ];rw[if_pos O];unfold j5;rw[hz,←key,uP];rfl
end Lw
namespace Lw
open PySem PySem.Spec DL L2
def jD (x:Int×OI):D:=.tup [.int x.1,uD x.2]
def ls (x:Int×OI):bC (jD x)=true:=by simp[jD,CM]
def ww (x:Int×OI):aH 5 (jD x)=true:=by obtain⟨s,u⟩:=x;cases u<;>simp[jD,uD]
def Bu {zs:LS}{i:Int}(h1 : -(zs.length:Int)<=i)(h2:i<zs.length):∃z∈zs,bK (.lst (zs.map .str)) (.int i)=sS z:=by
 obtain⟨j,hj,hl⟩:∃j,EW (zs.map D.str).length i=some j/\j<zs.length:=by
  unfold EW;rw[vI];by_cases h0:0<=i
  ·rw[if_pos h0,if_pos h2];exact⟨_,rfl,by omega⟩
  ·rw[if_neg h0,if_pos (by omega)];exact⟨_,rfl,by omega⟩
 refine⟨zs[j],getElem_mem hl,?_⟩;have:mD (zs.map D.str) i=some (.str zs[j]):=by unfold mD;rw[hj,vJ,vA,vU hl];rfl
 simp[this]
noncomputable def MR:LN:=[7,255,3,15]
noncomputable def MS:LN:=[1,2,3,4,5,7,128,255]
inductive Dd:Str->List D->Prop
 |root (o r:Str) (m:Nat) (hm:m∈MR) (f:Int):Dd ("root" : Str) [.str o,.int m,.int f,.str r]
 |named (d:Int) (o p:Str):Dd ("named" : Str) [.int d,.str o,.str p]
 |three (k:Str) (hk:k = "death" ∨ k = "lost" ∨ k = "found") (d:Int) (p:Str):Dd k [.int d,.str p]
 |leave (d:Int) (b p:Str) (m:Nat) (hm:m∈MS) (x:Int×Option Int) (f:Int):Dd ("leave" : Str) [.int d,.str b,.str p,.int m,jD x,.int f]
 |paper (k:Str) (hk:k = "paper" ∨ k = "like") (d:Int) (b:Str) (m:Nat) (hm:m∈MS) (x:Int×Option Int) (r:List D) (hf:bD r=true) (hp:r.all (aH 5)=true):Dd k (.int d::.str b::.int m::jD x::r)
 |copy (k:Str) (hk:k = "copy" ∨ k = "call") (d:Int) (b:Str) (n:Nat):Dd k [.int d,.str b,.int n]
def Dd.cd (h:Dd k r):Cd k r:=by
 cases h with
 |root o r m hm f=>exact .root _ _ _ _
 |named d o p=>exact .named _ _ _
 |three k hk d p=>exact .three _ hk _ _
 |leave d b p m hm x f=>exact .other _ (.inl rfl) _ _ _ (by simp[ls]) (by simp only[all_cons,all_nil,ww,aH,Bool.and_true])
 |paper k hk d b m hm x r hf hp=>exact .other _ (hk.elim (λh=>.inr (.inl h)) λh=>.inr (.inr (.inl h))) _ _ _ (by simp[hf,ls]) (by simp only[all_cons,hp,ww,aH,Bool.and_true])
 |copy k hk d b n=>exact .other _ (hk.elim (λh=>.inr (.inr (.inr (.inl h)))) λh=>.inr (.inr (.inr (.inr h)))) _ _ _ rfl (by simp)
def ce (r:D):Prop:=∃h k ax,r=row h k ax/\Dd k ax
def ce.c (g:ce r):xR r:=by obtain⟨h,k,ax,e,d⟩:=g;exact⟨h,k,ax,e,d.cd⟩
def ce.flat (g:ce r):bC r=true:=g.c.rp.flat
noncomputable def wx (af:LD):LS:=(af.filter bp).map (aV 0)
def Er (af:LD)(r:D):wx (af++[r])=wx af++if bp r=true then [aV 0 r]else []:=by
 unfold wx;rw[filter_append,uW,filter_cons];split
 ·rename_i h;rfl
 ·rename_i h;rfl
def wy (a b:Nat):iJ [.int a,.int b]=sO (decide (a &&& b=b)):=by
 have:Builtin.bitAnd (a:Int) (b:Int)=((a &&& b:Nat):Int):=by simp[Builtin.bitAnd]
 simp[iJ,sw,this];omega
def iT (r:D):Nat:=(if kindOf r = "root" then kj 1 r else if kindOf r = "leave" then kj 3 r else kj 2 r).toNat
def fg (a:Int)(k:Str)(ax:LD):kindOf (row a k ax)=k:=rfl
noncomputable def fj:LS:=[("leave" : Str),"paper","like"]
def tq (g:ce r)(h:bp r=true):∃a o rl,∃m:Nat,∃f:Int,r=row a ("root" : Str) [.str o,.int m,.int f,.str rl]/\m∈MR/\iT r=m:=by
 obtain⟨a,k,ax,rfl,d⟩:=g;have hk:k = "root":=PN h;clear h;cases d with
 |root o rl m hm f=>exact⟨a,o,rl,m,f,rfl,hm,by unfold iT;rw[fg,if_pos rfl];rfl⟩
 |named=>exact jp hk
 |three k G=>rcases G with rfl|rfl|rfl<;>exact jp hk
 |leave=>exact jp hk
 |paper k G=>rcases G with rfl|rfl<;>exact jp hk
 |copy k G=>rcases G with rfl|rfl<;>exact jp hk
def CU (g:ce r)(h:bp r=true):au [r,.str "matters"]=sI (iT r):=by
 obtain⟨a,o,rl,m,f,rfl,_,e⟩:=tq g h;rw[e];exact bA (i:=1) cC rfl
def MU {a:Int}{k:Str}{ax:LD}(d:Dd k ax)(h:k∈fj):iT (row a k ax)∈MS/\(∃i:Nat,mo bQ (.str k) (.str "matters")=sI i/\ax[i]? = some (.int (iT (row a k ax))))/\(D.str k::ax).getD (3+if k = "leave" then 1 else 0) .non=.int (iT (row a k ax))/\(3+if k = "leave" then 1 else 0)<(D.str k::ax).length:=by
 cases d with
 |leave d b p m hm x f=>
  have e:iT (row a ("leave" : Str) [.int d,.str b,.str p,.int m,jD x,.int f])=m:=by unfold iT;rw[fg,if_neg (by decide +kernel),if_pos rfl];rfl
  rw[e];refine⟨hm,⟨3,cC,rfl⟩,?_,?_⟩
  ·rw[if_pos rfl];rfl
  ·rw[if_pos rfl];simp
 |paper k hk d b m hm x r hf hp=>
  have hl:k ≠ "leave":=by rcases hk with rfl|rfl<;>decide +kernel
  have M:k ≠ "root":=by rcases hk with rfl|rfl<;>decide +kernel
  have e:iT (row a k (.int d::.str b::.int m::jD x::r))=m:=by unfold iT;rw[fg,if_neg M,if_neg hl];rfl
  rw[e];refine⟨hm,⟨2,by rcases hk with rfl|rfl<;>exact cC,rfl⟩,?_,?_⟩
  ·rw[if_neg hl];rfl
  ·rw[if_neg hl];simp
 |root=>exact jp h
 |named=>exact jp h
 |three k G=>rcases G with rfl|rfl|rfl<;>exact jp h
 |copy k G=>rcases G with rfl|rfl<;>exact jp h
def xY (g:ce r)(h:kindOf r∈fj):au [r,.str "matters"]=sI (iT r):=by
 obtain⟨a,k,ax,rfl,d⟩:=g;obtain⟨_,⟨i,h1,h2⟩,_⟩:=MU (a:=a) d h;exact bA h1 h2
noncomputable def cw:LS:=[("leave" : Str),"paper","like","copy"]
def jW (h:k∈cw∨k = "call"):eQ k=true:=by
 rw[sQ];refine Aq ?_;rcases h with h|rfl
 ·have:∀k∈cw,k∈zG:=by decide +kernel
  exact this k h
 ·decide +kernel
def JQ {k:Str}{ax:LD}(d:Dd k ax)(h:eQ k=true):∃(dd:Int)(b:Str)(r:LD),ax=.int dd::.str b::r:=d.cd.deed.slg h
def CV (g:ce r)(h:eQ (kindOf r)=true):au [r,.str "by"]=sS (dm r):=by
 obtain⟨a,k,ax,rfl,d⟩:=g;obtain⟨dd,b,q,rfl⟩:=JQ d h;exact bA (i:=1) (GO h) rfl
noncomputable def bV (K:KL):LD:=(K.filter λx=>bp x.1).map (·.1)
theorem zM:∀(l:List (eK×D))(a:LK×LD),(a.1++l.map (·.1)).Nodup->l.foldl r6 a=(a.1++l.map (·.1),a.2++l.map (·.2))
 |[],a,_=>by simp
 |p::l,a,h=>by
  have hn:p.1∉a.1:=by
   rw[uY,nodup_append]at h;exact λz=>h.2.2 _ z _ mX rfl
  have e:r6 a p=(a.1++[p.1],a.2++[p.2]):=by unfold r6 hZ eY;rw[if_neg hn,if_neg hn]
  rw[foldl_cons,e,zM l _ (by rw[append_assoc];exact h)];simp
section
variable {K:KL}(hn:((bV K).map (aV 0)).Nodup)
include hn
theorem tu:cb (nY K)=((bV K).map λv=>(.inr (aV 0 v):eK),bV K):=by
 have e:nY K=(bV K).map λv=>((.inr (aV 0 v):eK),v):=by unfold nY bV;rw[uP];rfl
 have G:((bV K).map λv=>(.inr (aV 0 v):eK)).Nodup:=by
  refine pairwise_map.mpr ((pairwise_map.mp hn).imp λh z=>h (Sum.inr.inj z))
 rw[e];unfold cb;rw[zM _ _ (by rw[uP];exact G),uP,uP];simp only[List.nil_append];congr 1;exact map_id _
end
noncomputable def JR (j:Nat):D->Int×OI
 |.tup [_,.tup (_::ax)]=>match ax[j]? with
  |some (.tup [.int s,.int u])=>(s,some u)
  |some (.tup [.int s,.non])=>(s,none)
  |_=>(0,none)
 |_=>(0,none)
def qx {h:Int}{k:Str}{ax:LD}{j:Nat}{x:Int×OI}(e:ax[j]? = some (jD x)):JR j (row h k ax)=x:=by
 unfold JR row;simp only[e];obtain⟨s,u⟩:=x;cases u<;>rfl
def fN (r:D):Int×OI:=if kindOf r = "leave" then JR 4 r else JR 3 r
def iQ (r:D):Int:=if kindOf r = "root" then kj 2 r else kj 5 r
def nZ (r:D):Bool:=decide (kindOf r = "leave")
def pU {r:D}(g:ce r)(h:kindOf r = "leave"):∃a d b p,∃m:Nat,∃x f,r=row a ("leave" : Str) [.int d,.str b,.str p,.int m,jD x,.int f]/\m∈MS/\iT r=m/\fN r=x/\iQ r=f:=by
 obtain⟨a,k,ax,rfl,d⟩:=g;have hk:k = "leave":=h;clear h;cases d with
 |leave d b p m hm x f=>exact⟨a,d,b,p,m,x,f,rfl,hm,by unfold iT;rw[fg,if_neg (by decide +kernel),if_pos rfl];rfl,by unfold fN;rw[fg,if_pos rfl];exact qx rfl,by unfold iQ;rw[fg,if_neg (by decide +kernel)];rfl⟩
 |root=>exact jp hk
 |named=>exact jp hk
 |three k G=>rcases G with rfl|rfl|rfl<;>exact jp hk
 |paper k G=>rcases G with rfl|rfl<;>exact jp hk
 |copy k G=>rcases G with rfl|rfl<;>exact jp hk
def JU {a:Int}{k:Str}{ax:LD}(d:Dd k ax)(h:k∈fj):(∃i:Nat,mo bQ (.str k) (.str "stretch")=sI i/\ax[i]? = some (jD (fN (row a k ax))))/\(D.str k::ax).getD (4+if k = "leave" then 1 else 0) .non=jD (fN (row a k ax))/\(4+if k = "leave" then 1 else 0)<(D.str k::ax).length:=by
 cases d with
 |leave d b p m hm x f=>
  have e:fN (row a ("leave" : Str) [.int d,.str b,.str p,.int m,jD x,.int f])=x:=by unfold fN;rw[fg,if_pos rfl];exact qx rfl
  rw[e,if_pos rfl];exact⟨⟨4,cC,rfl⟩,rfl,by simp⟩
 |paper k hk d b m hm x r hf hp=>
  have hl:k ≠ "leave":=by rcases hk with rfl|rfl<;>decide +kernel
  have e:fN (row a k (.int d::.str b::.int m::jD x::r))=x:=by unfold fN;rw[fg,if_neg hl];exact qx rfl
  rw[e,if_neg hl];exact⟨⟨3,by rcases hk with rfl|rfl<;>exact cC,rfl⟩,rfl,by simp⟩
 |root=>exact jp h
 |named=>exact jp h
 |three k G=>rcases G with rfl|rfl|rfl<;>exact jp h
 |copy k G=>rcases G with rfl|rfl<;>exact jp h
def CW (g:ce r)(h:kindOf r∈fj):au [r,.str "stretch"]=some (jD (fN r),false):=by
 obtain⟨a,k,ax,rfl,d⟩:=g;obtain⟨⟨i,h1,h2⟩,_⟩:=JU (a:=a) d h;exact bA h1 h2
def xZ (h:kindOf r = "leave"):kindOf r∈fj:=by rw[h];decide +kernel
def Lo (g:ce r)(h:bp r=true∨kindOf r = "leave"):au [r,.str "further"]=sI (iQ r):=by
 rcases h with h|h
 ·obtain⟨a,o,rl,m,f,rfl,_,_⟩:=tq g h;rw[show iQ (row a ("root" : Str) [.str o,.int m,.int f,.str rl])=f by unfold iQ;rw[fg,if_pos rfl];rfl];exact bA (i:=2) cC rfl
 ·obtain⟨a,d,b,p,m,x,f,e,_,_,_,G⟩:=pU g h;rw[G,e];exact bA (i:=5) cC rfl
def t6 (r v:D):Bool:=decide (iT v &&& iT r=iT r) && !(nZ r && decide (iQ v<=iQ r))
def oQ (r v:D):D:=if decide (iT v &&& iT r=iT r)=true then (if(nZ r && decide (iQ v<=iQ r))=true then .str "further" else .non)else .str "matters"
def zN (O:ce r)(T:ce v)(kr:kindOf r∈fj)(kv:bp v=true∨kindOf v = "leave"):∃d,iZ [r,v]=some (d,false)/\As d .non=sO (t6 r v)/\d=oQ r v:=by
 have U:au [v,.str "matters"]=sI (iT v):=kv.elim (CU T) λh=>xY T (xZ h);have t1:aT (fA iJ (ag (fA au (fV 1 (ag (fS "matters") aj))) (ag (fA au (fV 0 (ag (fS "matters") aj))) aj))) [some (r,false),some (v,false)]=some (decide (iT v &&& iT r=iT r)):=dD (aN [.int (iT v),.int (iT r)] (aS (aN [v,.str "matters"] rfl U) (aS (aN [r,.str "matters"] rfl (xY O kr)) rfl)) (wy _ _));have t2:aT (f2 dj (fA a9 (fV 0 aj)) (fS "leave")) [some (r,false),some (v,false)]=some (nZ r):=ci (a:=kindOf r) (bb:=false) (aN [r] rfl (iN O.c)) rfl;have t3:nZ r=true->aT (f2 Q3 (fA au (fV 0 (ag (fS "further") aj))) (fA au (fV 1 (ag (fS "further") aj)))) [some (r,false),some (v,false)]=some (decide (iQ v<=iQ r)):=λh=>dD (bX (.int (iQ r)) (.int (iQ v)) (aN [r,.str "further"] rfl (Lo O (.inr (PN h)))) (aN [v,.str "further"] rfl (Lo T kv)) rfl);have t4:=ft t2 t3;unfold t6;cases G:decide (iT v &&& iT r=iT r) with
 |false=>exact⟨.str "matters",aw rfl (bF (bN (p:=false) (t1.trans (by rw[G]))) (ay rfl)),rfl,by simp only[oQ,G];rfl⟩
 |true=>
  cases M:(nZ r && decide (iQ v<=iQ r)) with
  |true=>exact⟨.str "further",aw rfl (aK (bN (p:=true) (t1.trans (by rw[G]))) (bF (t4.trans (by rw[M])) (ay rfl))),rfl,by simp only[oQ,G,M];rfl⟩
  |false=>exact⟨.non,aw rfl (aK (bN (p:=true) (t1.trans (by rw[G]))) (aK (t4.trans (by rw[M])) (ay rfl))),rfl,by simp only[oQ,G,M];rfl⟩
def t9 (h:k∈fj):k∈cw:=by
 have:∀k∈fj,k∈cw:=by decide +kernel
 exact this k h
def jc (h:kindOf r∈fj):bp r=false:=by
 have:∀k∈fj,decide (k = "root")=false:=by decide +kernel
 exact this _ h
def tE (g:ce r)(h:bp r=false):aQ [r]=sI (aY r):=by
 have:=wn g.c;unfold xS at this;rwa [h,if_neg (by decide)]at this
def ul (cs:List Cl)(r v:D):Bool:=ki cs (aV 0 v) (aV 3 v) (dm r) (aY r) && t6 r v
def GZ (cs:List Cl)(r v:D):D:=if ki cs (aV 0 v) (aV 3 v) (dm r) (aY r)=true then oQ r v else .str "holder"
def JV (cs:List Cl)(M:cs.length<=60)(O:ce r)(U:ce v)(T:kindOf r∈fj)(hv:bp v=true):∃d,ii [.lst (cs.map bu),r,v]=some (d,false)/\As d .non=sO (ul cs r v)/\d=GZ cs r v:=by
 obtain⟨d,e1,e2,e3⟩:=zN O U T (.inl hv);have t1:aT (fA dC (fV 0 (fV 2 (ag (fA au (fV 1 (ag (fS "by") aj))) (ag (fA aQ (fV 1 aj)) aj))))) [sL (cs.map bu),some (r,false),some (v,false)]=some (ki cs (aV 0 v) (aV 3 v) (dm r) (aY r)):=by
  refine dD (aN [.lst (cs.map bu),v,.str (dm r),.int (aY r)] (bY rfl (bY rfl (aS (aN [r,.str "by"] rfl (CV O (jW (.inl (t9 T))))) (aS (aN [r] rfl (tE O (jc T))) rfl)))) ?_);obtain⟨a,o,rl,m,f,rfl,_,_⟩:=tq U hv;exact CO cs M _ _
 unfold ul;cases G:ki cs (aV 0 v) (aV 3 v) (dm r) (aY r) with
 |false=>exact⟨.str "holder",aw rfl (bF (bN (p:=false) (t1.trans (by rw[G]))) (ay rfl)),rfl,by simp only[GZ,G];rfl⟩
 |true=>exact⟨d,aw rfl (aK (bN (p:=true) (t1.trans (by rw[G]))) (ay (aN [r,v] rfl e1))),e2,by rw[e3];simp only[GZ,G];rfl⟩
def Ha (cs:List Cl)(r v:D):Int:=match kh cs (aV 0 v) (aV 3 v) (aY r) with
 |.tup [_,_,.int n]=>n
 |_=>0
def Hb (h:ki cs o rl p day=true):∃n:Int,kh cs o rl day=.tup [.str "one",.str p,.int n]:=by
 unfold ki kh at h;unfold kh;generalize NV cs o day=al at h ⊢;cases al with
 |nil=>
  have h:dc (.tup [.str "none"]) (.tup [.str "one",.str p])=true:=h;simp[fQ]at h
 |cons b r=>
  rw[pQ]at h ⊢;split at h
  ·have h:dc (.tup [.str "parted",.lst ((m8 (b::r)).map .str)]) (.tup [.str "one",.str p])=true:=h;simp[fQ]at h
  ·rename_i hn;rw[if_neg hn];have h:dc (.tup [.str "one",.str (iP rl b r).p]) (.tup [.str "one",.str p])=true:=h;have h:(iP rl b r).p=p:=by simpa [fQ]using h
   exact⟨_,by rw[h]⟩
def JX (h:ki cs (aV 0 v) (aV 3 v) (dm r) (aY r)=true):kh cs (aV 0 v) (aV 3 v) (aY r)=.tup [.str "one",.str (dm r),.int (Ha cs r v)]:=by
 obtain⟨n,e⟩:=Hb h;unfold Ha;rw[e]
def MV (cs:List Cl)(r v:D):D:=.tup [.str "office",.str (aV 0 v),.int (Ha cs r v)]
def tF (g:∀r∈af,ce r)(hv:v∈bV (av af ae)):ce v/\bp v=true:=by
 obtain⟨x,hx,rfl⟩:=vO hv;obtain⟨h1,h2⟩:=vN hx;exact⟨g _ (vL (bI h1)),h2⟩
def Hd (hl:af.length<=60)(ae:Int):(bV (av af ae)).length<=60:=by
 unfold bV;rw[vI];exact vR (vM _ _) (vR (cD af ae) hl)
def Es {af:LD}(g:∀r∈af,ce r)(hl:af.length<=60)(ae:Int)(hn:((bV (av af ae)).map (aV 0)).Nodup)(cs:List Cl)(M:cs.length<=60){O:Nat}{r:D}(U:af[O]? = some r)(kr:kindOf r∈fj):
  iK [.tup af,.int ae,.lst (cs.map bu),.int O]=lT (((bV (av af ae)).filter (ul cs r)).map (MV cs r)):=by
 have gC:gQ af:=⟨hl,λr U=>(g r U).c⟩;have gr:=g r (vL U);have Yn:=Hd hl ae;have h1:=fW (fi:=rG (fA gJ (fV 0 (fV 1 aj)))) (nT:=1) (cap:=[2,4]) (tg:=cU 0) (c:=aT (f2 As (fA ii (fV 1 (fV 2 (fV 0 aj)))) (fC .non))) (fe:=am 0)
  (ρ:=[sT af,sI ae,sL (cs.map bu),sI O,some (r,false),none]) (bV (av af ae)) id (ul cs r) id
  (by show(fA gJ _ _).bind _=_;rw[aN [.tup af,.int ae] rfl (tm gC ae),tu hn];simp) (by omega) λv hv=>by
   obtain⟨gv,G⟩:=tF g hv;obtain⟨d,e1,e2,_⟩:=JV cs M gr gv kr G;exact⟨[some (v,false),sL (cs.map bu),some (r,false)],rfl,dD (bX d .non (aN [.lst (cs.map bu),r,v] rfl e1) rfl e2),λ_=>⟨false,rfl⟩⟩
 rw[map_id]at h1;have KA:bD ((bV (av af ae)).filter (ul cs r))=true:=cf λv hv=>(tF g (vN hv).1).1.flat;refine aw rfl (jC r (bX (.tup af) (.int O) rfl rfl (by simp[bT U])) gr.flat (cG h1 KA (ay ?_)));refine px (fi:=bM (am 5)) (nT:=1) (cap:=[2,4]) (tg:=cU 0) (fe:=fA aX (ag (fS "office") (ag (fA au (fV 0 (ag (fS "office") aj))) (ag (f2 bK (fA eE (fV 1 (fV 0 (ag (fA aQ (fV 2 aj)) aj)))) (fI 2)) aj))))
  (ρ:=[sT af,sI ae,sL (cs.map bu),sI O,some (r,false),lT ((bV (av af ae)).filter (ul cs r))]) ((bV (av af ae)).filter (ul cs r)) id (MV cs r) (by simp) (vR (vM _ _) (by omega)) λv hv=>?_
 obtain⟨Tc,XF⟩:=vN hv;obtain⟨gv,G⟩:=tF g Tc;have T:(ki cs (aV 0 v) (aV 3 v) (dm r) (aY r) && t6 r v)=true:=XF;rw[vC]at T;have hh:=JX T.1;refine⟨[some (v,false),sL (cs.map bu),some (r,false)],rfl,false,?_⟩;obtain⟨a,o,rl,m,f,rfl,_,_⟩:=tq gv G;refine aN [.str "office",.str o,.int (Ha cs r _)] (bY rfl (aS (aN [row a ("root" : Str) [.str o,.int m,.int f,.str rl],.str "office"] rfl lr) (bY (bX (kh cs o rl (aY r)) (.int 2) (aN [.lst (cs.map bu),row a ("root" : Str) [.str o,.int m,.int f,.str rl],.int (aY r)] (bY rfl (bY rfl (aS (aN [r] rfl (tE gr (jc kr))) rfl))) (nX cs M _)) rfl ?_) rfl))) (cz _ (by simp));have hh:kh cs o rl (aY r)=_:=hh;rw[hh];simp[RF]
noncomputable def wz (day:Int)(x:Int×OI):Bool:=decide (x.1<=day) && (match x.2 with|none=>true|some u=>decide (day<u))
noncomputable def Py:OI->OI->Bool
 |_,none=>true
 |none,some _=>false
 |some x,some y=>decide (x<=y)
def JY (a b:OI):jn [uD a,uD b]=sO (Py a b):=by
 cases b with
 |none=>exact aw rfl (bF (dD (by simp[uD])) (ay (by cases a<;>rfl)))
 |some y=>
  refine aw rfl (aK (dD (by simp[uD])) (ay ?_));cases a with
  |none=>exact dA (p:=false) (q:=false) (b1:=false) (by simp[uD]) (by simp)
  |some x=>exact dA (p:=true) (q:=decide (x<=y)) (b1:=false) (by simp[uD]) λ_=>by simp[uD]
def He (a b:Int×OI):Bool:=decide (b.1<=a.1) && Py a.2 b.2
def MW (a b:Int×OI):ja [jD a,jD b]=sO (He a b) :=
 aw rfl (ay (dA (b1:=false) (by simp[jD,Ig]) λ_=>aN [uD a.2,uD b.2] (bY (by simp[jD,GH]) (bY (by simp[jD,GH]) rfl)) (JY _ _)))
def Lp {af:LD}{i:Nat}{r:D}(G:af[i]? = some r)(g:ce r)(h:bp r=false):fz [.tup af,.int i]=sT [.int (aY r),.int i] :=
 aw rfl (ay (aN [.int (aY r),.int i] (bY (aN [r] (by simp[bT G]) (tE g h)) rfl) (by simp[sizeLine])))
def RH (a b c d:Int):L6 (.tup [.int a,.int b]) (.tup [.int c,.int d])=sO (decide (a<c∨(a=c/\b<d))):=by
 show(bv [.i a,.i b] [.i c,.i d]).map _=_;rw[MQ];rfl
def zO {af:LD}{i j:Nat}{x y:D}(hx:af[i]? = some x)(hy:af[j]? = some y)(G:ce x)(M:ce y)(nx:bp x=false)(O:bp y=false):gu [.tup af,.int i,.int j]=sO (nR (x,i) (y,j)) :=
 aw rfl (ay (bX (.tup [.int (aY x),.int i]) (.tup [.int (aY y),.int j]) (aN [.tup af,.int i] rfl (Lp hx G nx)) (aN [.tup af,.int j] rfl (Lp hy M O)) (RH _ _ _ _)))
def Bv (r:D)(G:Nat)(x:D×Nat):Bool:=nR x (r,G) && ((wz (aY r) (fN x.1) && He (fN r) (fN x.1)) && t6 r x.1)
def CY (r:D)(G:Nat)(x:D×Nat):D:=if nR x (r,G)=true then (if(wz (aY r) (fN x.1) && He (fN r) (fN x.1))=true then oQ r x.1 else .str "days")else .str "order"
def JZ {af:LD}{M G:Nat}{r l:D}(hr:af[M]? = some r)(hl:af[G]? = some l)(T:ce r)(gl:ce l)(kr:kindOf r∈fj)(kl:kindOf l = "leave"):∃d,jb [.tup af,.int M,.int G]=some (d,false)/\As d .non=sO (Bv r M (l,G))/\d=CY r M (l,G):=by
 have nr:=jc kr;have nl:=jc (xZ kl);obtain⟨d,e1,e2,e3⟩:=zN T gl kr (.inr kl);let E:DL.Env:=[sT af,sI M,sI G,some (r,false),some (jD (fN l),false)];have al:∀ρ:DL.Env,ρ[0]? = some (sT af)->ρ[2]? = some (sI G)->f2 bK (am 0) (am 2) ρ=some (l,false):=λρ h0 h2=>bX (.tup af) (.int G) (by simp[h0]) (by simp[h2]) (by simp[bT hl]);have t1:aT (fA gu (fV 0 (fV 2 (fV 1 aj)))) E=some (nR (l,G) (r,M)):=dD (aN [.tup af,.int G,.int M] rfl (zO hl hr gl T nl nr));have t2:aT (fA gn (ag (fA aQ (fV 3 aj)) (fV 4 aj))) E=some (wz (aY r) (fN l)):=dD (aN [.int (aY r),jD (fN l)] (aS (aN [r] rfl (tE T nr)) (bY rfl rfl)) (xT _ _ _));have t3:aT (fA ja (ag (fA au (fV 3 (ag (fS "stretch") aj))) (fV 4 aj))) E=some (He (fN r) (fN l)):=dD (aN [jD (fN r),jD (fN l)] (aS (aN [r,.str "stretch"] rfl (CW T kr)) (bY rfl rfl)) (MW _ _));have t4:=ee (bN t2) λ_=>bN t3;have go:∀(h:FS)(res:Option Res),h E=res->a8 (ba 3 (f2 bK (am 0) (am 1))) (a8 (ba 4 (fA au (ag (f2 bK (am 0) (am 2)) (ag (fS "stretch") aj)))) h) [sT af,sI M,sI G,none,none]=res:=λh res k=>
  jC r (bX (.tup af) (.int M) rfl rfl (by simp[bT hr])) T.flat (jC (jD (fN l)) (aN [l,.str "stretch"] (aS (al _ rfl rfl) rfl) (CW gl (xZ kl))) (ls _) k)
 unfold Bv;cases O:nR (l,G) (r,M) with
 |false=>exact⟨.str "order",aw rfl (go _ _ (bF (bN (p:=false) (t1.trans (by rw[O]))) (ay rfl))),rfl,by simp only[CY,O];rfl⟩
 |true=>
  cases U:(wz (aY r) (fN l) && He (fN r) (fN l)) with
  |false=>exact⟨.str "days",aw rfl (go _ _ (aK (bN (p:=true) (t1.trans (by rw[O]))) (bF (t4.trans (by rw[←Bool.not_and,U];rfl)) (ay rfl)))),rfl,by simp only[CY,O,U];rfl⟩
  |true=>exact⟨d,aw rfl (go _ _ (aK (bN (p:=true) (t1.trans (by rw[O]))) (aK (t4.trans (by rw[←Bool.not_and,U];rfl)) (ay (aN [r,l] (bY rfl (aS (al _ rfl rfl) rfl)) e1))))),e2,by rw[e3];simp only[CY,O,U];rfl⟩
def m9 {af:LD}{ae:Int}{i:Nat}{r:D}(M:af[i]? = some r)(g:ce r):gt [.tup af,.int ae,.int i]=sO (decide (br r<=ae) && nZ r):=by
 have G:cA [.tup af,.int ae,.int i]=sO (decide (br r<=ae)):=by
  obtain⟨a,k,ax,rfl,d⟩:=g;exact lq M ae
 exact aw rfl (ay (dA (aN [.tup af,.int ae,.int i] rfl G) λ_=>bX (.str (kindOf r)) (.str "leave") (aN [r] (bY (bX (.tup af) (.int i) rfl rfl (by simp[bT M])) rfl) (iN g.c)) rfl (by simp[nZ])))
noncomputable def tG (K:KL)(p:Str):KL:=(K.filter λx=>nZ x.1).filter λx=>decide (aV 2 x.1=p)
def Hf (g:∀r∈af,ce r)(h:x∈tG (av af ae) p):af[x.2]? = some x.1/\ce x.1/\kindOf x.1 = "leave":=by
 obtain⟨h1,_⟩:=vN h;obtain⟨h2,h3⟩:=vN h1;exact⟨bI h2,g _ (vL (bI h2)),PN h3⟩
def Et {af:LD}(g:∀r∈af,ce r)(hl:af.length<=60)(ae:Int)(p:Str):lf [.tup af,.int ae,.str p]=lT ((tG (av af ae) p).map λx=>.int x.2):=by
 have M:=cD af ae;have h1:=fW (fi:=bM (fA cE (fV 0 (fV 1 aj)))) (nT:=1) (cap:=[0,1]) (tg:=cU 0) (c:=aT (fA gt (fV 1 (fV 2 (fV 0 aj))))) (fe:=am 0)
  (ρ:=[sT af,sI ae,sS p,none]) (av af ae) (λx=>.int x.2) (λx=>nZ x.1) (λx=>.int x.2)
  (by show(fA cE _ _).bind _=_;rw[aN [.tup af,.int ae] rfl (lm af (λr O=>(g r O).c.rp) (by omega) ae)];rfl) (by omega) λx hx=>by
   have hk:decide (br x.1<=ae)=true:=(vN hx).2;have:=m9 (ae:=ae) (bI hx) (g _ (vL (bI hx)));rw[hk,Bool.true_and]at this;exact⟨_,rfl,dD (aN [.tup af,.int ae,.int x.2] rfl this),λ_=>⟨false,rfl⟩⟩
 have G:bD (((av af ae).filter λx=>nZ x.1).map λx=>D.int x.2)=true:=cf λd hd=>by obtain⟨x,_,rfl⟩:=vO hd;rfl
 refine aw rfl (cG h1 G (ay ?_));refine fW (fi:=bM (am 3)) (nT:=1) (cap:=[2,0]) (tg:=cU 0) (c:=aT (f2 dj (fA au (ag (f2 bK (am 2) (am 0)) (ag (fS "person") aj))) (am 1))) (fe:=am 0)
  (ρ:=[sT af,sI ae,sS p,lT (((av af ae).filter λx=>nZ x.1).map λx=>.int x.2)]) ((av af ae).filter λx=>nZ x.1) (λx=>.int x.2) (λx=>decide (aV 2 x.1=p)) (λx=>.int x.2) (by simp) (vR (vM _ _) (by omega)) λx hx=>?_
 obtain⟨h2,h3⟩:=vN hx;obtain⟨a,d,b,q,m,st,f,e,_⟩:=pU (g _ (vL (bI h2))) (PN h3);refine⟨[sI x.2,sS p,sT af],rfl,dD (bX (.str (aV 2 x.1)) (.str p) (aN [x.1,.str "person"] (bY (bX (.tup af) (.int x.2) rfl rfl (by simp[bT (bI h2)])) rfl) ?_) rfl (by simp)),λ_=>⟨false,rfl⟩⟩;rw[e];exact bA (i:=2) cC rfl
def Eu {af:LD}(g:∀r∈af,ce r)(hl:af.length<=60)(ae:Int){G:Nat}{r:D}(M:af[G]? = some r)(T:kindOf r∈fj):
  jo [.tup af,.int ae,.int G]=lT (((tG (av af ae) (dm r)).filter (Bv r G)).map λx=>.tup [.str "leave",.int x.2]):=by
 have U:=g r (vL M);have QT:=cD af ae;have Yo:(tG (av af ae) (dm r)).length<=60:=vR (vM _ _) (vR (vM _ _) (by omega));have O:bD ((tG (av af ae) (dm r)).map λx=>D.int x.2)=true:=cf λd hd=>by obtain⟨x,_,rfl⟩:=vO hd;rfl
 refine aw rfl (cG (ds:=(tG (av af ae) (dm r)).map λx=>.int x.2) (aN [.tup af,.int ae,.str (dm r)] (bY rfl (bY rfl (aS (aN [r,.str "by"] (bY (bX (.tup af) (.int G) rfl rfl (by simp[bT M])) rfl) (CV U (jW (.inl (t9 T))))) rfl))) (Et g hl ae _)) O (ay ?_));refine fW (fi:=bM (am 3)) (nT:=1) (cap:=[0,2]) (tg:=cU 0) (c:=aT (f2 As (fA jb (fV 1 (fV 2 (fV 0 aj)))) (fC .non))) (fe:=fA aX (ag (fS "leave") (fV 0 aj)))
  (ρ:=[sT af,sI ae,sI G,lT ((tG (av af ae) (dm r)).map λx=>.int x.2)]) (tG (av af ae) (dm r)) (λx=>.int x.2) (Bv r G) (λx=>.tup [.str "leave",.int x.2]) (by simp) (by omega) λx hx=>?_
 obtain⟨h1,h2,h3⟩:=Hf g hx;obtain⟨d,e1,e2,_⟩:=JZ M h1 U h2 T h3;exact⟨[sI x.2,sT af,sI G],rfl,dD (bX d .non (aN [.tup af,.int G,.int x.2] rfl e1) rfl e2),λ_=>⟨false,aN [.str "leave",.int x.2] rfl (cz _ (by simp))⟩⟩
abbrev Bs:=Option Str×Int
noncomputable def Aw:Bs->D
 | (some o,n)=>.tup [.str "office",.str o,.int n]
 | (none,n)=>.tup [.str "leave",.int n]
noncomputable def zP:Bs->List At
 | (some o,n)=>[.i n,.s ("office" : Str),.s o,.i n]
 | (none,n)=>[.i n,.s ("leave" : Str),.i n]
def Hg (b:Bs):bC (Aw b)=true:=by rcases b with⟨_|o,n⟩<;>rfl
def Ka (b:Bs):bK (Aw b) (.int (-1))=sI b.2:=by rcases b with⟨_|o,n⟩<;>rfl
def Hh (a b:Bs):(bv (zP a) (zP b)).isSome=true:=by
 have M:("office" : Str) ≠ "leave":=by decide +kernel
 rcases a with⟨_|o,n⟩<;>rcases b with⟨_|o',G⟩
 ·show(bv [.i n,.s ("leave" : Str),.i n] [.i G,.s ("leave" : Str),.i G]).isSome=true;rw[bv];split
  ·rw[bv,if_pos rfl,bv];split
   ·rw[bv];rfl
   ·rfl
  ·rfl
 ·show(bv [.i n,.s ("leave" : Str),.i n] [.i G,.s ("office" : Str),.s o',.i G]).isSome=true;rw[bv];split
  ·rw[bv,if_neg (Ne.symm M)];rfl
  ·rfl
 ·show(bv [.i n,.s ("office" : Str),.s o,.i n] [.i G,.s ("leave" : Str),.i G]).isSome=true;rw[bv];split
  ·rw[bv,if_neg M];rfl
  ·rfl
 ·show(bv [.i n,.s ("office" : Str),.s o,.i n] [.i G,.s ("office" : Str),.s o',.i G]).isSome=true;rw[bv];split
  ·rw[bv,if_pos rfl,bv];split
   ·rw[bv];split
    ·rw[bv];rfl
    ·rfl
   ·rfl
  ·rfl
def Kb (h:zP a=zP b):a=b:=by
 rcases a with⟨_|o,n⟩<;>rcases b with⟨_|o',G⟩<;>simp[zP]at h
 ·rw[h]
 ·rw[h.1,h.2.1]
def CZ (l:List Bs):eO (l.map zP)=true:=by
 unfold eO;simp[all_eq_true,Hh]
def Hi (e:cQ (zP a)=cQ (zP b)):a=b:=Kb (o9 (CZ [a,b]) (by simp) (by simp) e)
def Vo (cs:List Cl)(r v:D):Bs:=(some (aV 0 v),Ha cs r v)
def zQ (K:KL)(cs:List Cl)(r:D)(G:Nat):List Bs:=((bV K).filter (ul cs r)).map (Vo cs r)++((tG K (dm r)).filter (Bv r G)).map λx=>(none,(x.2:Int))
def MX (K:KL)(cs:List Cl)(r:D)(G:Nat):List Bs:=eN (λb=>cQ (zP b)) (zQ K cs r G)
def Ev (hn:((bV (av af ae)).map (aV 0)).Nodup)(cs:List Cl)(r:D)(G:Nat):(zQ (av af ae) cs r G).Nodup:=by
 unfold zQ;rw[nodup_append];refine⟨?_,?_,?_⟩
 ·exact pairwise_map.mpr ((List.Pairwise.sublist filter_sublist (pairwise_map.mp hn)).imp λh e=>h (vK (Prod.mk.inj e).1))
 ·refine pairwise_map.mpr ((List.Pairwise.sublist (filter_sublist.trans (filter_sublist.trans filter_sublist)) (pairwise_map.mp (eI af ae))).imp λh e=>h ?_);have:=(Prod.mk.inj e).2;omega
 ·intro a ha b hb e;obtain⟨v,_,rfl⟩:=vO ha;obtain⟨x,_,rfl⟩:=vO hb;cases (Prod.mk.inj e).1
theorem w4 {α:Type}{g:α->D}{h:α->List At}:∀(l:List α),(∀x∈l,MI (g x)=some (h x))->j6 (l.map g)=some (l.map h)
 |[],_=>rfl
 |x::l,k=>by
  rw[uY,j6,k x mX,vJ,w4 l λy hy=>k y (mZ _ hy)];rfl
def Db (hl:af.length<=30)(ae:Int)(cs:List Cl)(r:D)(G:Nat):(zQ (av af ae) cs r G).length<=60:=by
 have h1:((bV (av af ae)).filter (ul cs r)).length<=30:=by
  refine vR (vM _ _) ?_;unfold bV;rw[vI];exact vR (vM _ _) (vR (cD af ae) hl)
 have h2:((tG (av af ae) (dm r)).filter (Bv r G)).length<=30:=vR (vM _ _) (vR (vM _ _) (vR (vM _ _) (vR (cD af ae) hl)));unfold zQ;rw[uZ,vI,vI];omega
def Hj {f:FE}{ρ:DL.Env}{b:Bool}(l:List Bs)(hl:l.length<=60)(hn:l.Nodup)(e:f ρ=some (.lst (l.map Aw),b)):Bk f (rm [] (fA aX (ag (f2 bK (am 0) (f1 y8 (fI 1))) (fV 0 aj)))) ρ=lT ((eN (λb=>cQ (zP b)) l).map Aw):=by
 have hm:j4 (rm [] (fA aX (ag (f2 bK (am 0) (f1 y8 (fI 1))) (fV 0 aj))) ρ) (l.map Aw)=some (l.map λb=>.tup [.int b.2,Aw b]):=iM l λb _=>by
  show(fA aX _ _).map _=_;rw[aN [.int b.2,Aw b] (bY (bX (Aw b) (.int (-1)) rfl rfl (Ka b)) (bY rfl rfl)) (cz _ (by simp))];rfl
 have hk:j6 (l.map λb=>D.tup [.int b.2,Aw b])=some (l.map zP):=w4 l λb _=>by rcases b with⟨_|o,n⟩<;>rfl
 have G:(l.map zP).length<64/\eO (l.map zP)=true/\True/\((l.map zP).map cQ).Nodup:=by
  refine⟨by rw[vI];omega,CZ l,trivial,?_⟩;rw[uP];exact pairwise_map.mpr (List.Pairwise.imp (λh e=>h (Hi e)) hn)
 unfold Bk xD;rw[e];simp only[vJ];rw[hm];simp only[vJ];rw[hk];simp only[vJ];rw[if_pos G];unfold j5;have M:((eN (λb=>cQ (zP b)) l).map λb=>(zP b,Aw b))=eN (λp:List At×D=>cQ p.1) (l.map λb=>(zP b,Aw b)):=by
  refine kI _ (λx hx y hy e=>?_) ((bH _ _).map _) ?_
  ·obtain⟨a,_,rfl⟩:=vO hx;obtain⟨b,_,rfl⟩:=vO hy;rw[Hi e]
  ·exact pairwise_map.mpr (ge _ _)
 rw[zip_map',←M,uP];rfl
section
variable {af:LD}(g:∀r∈af,ce r) (hl:af.length<=30) (ae:Int) (hn:((bV (av af ae)).map (aV 0)).Nodup)
include g hl hn
theorem zR (cs:List Cl)(Qv:cs.length<=60){G:Nat}{r:D}(O:af[G]? = some r)(U:kindOf r∈fj)(hk:br r<=ae):fB [.tup af,.int ae,.lst (cs.map bu),.int G]=lT ((MX (av af ae) cs r G).map Aw):=by
 have gr:=g r (vL O);have wd:∀(ρ:DL.Env)(j:Nat),ρ[0]? = some (sT af)->ρ[j]? = some (sI G)->fA a9 (ag (f2 bK (am 0) (am j)) aj) ρ=sS (kindOf r):=λρ j h0 h2=>aN [r] (bY (bX (.tup af) (.int G) (by simp[h0]) (by simp[h2]) (by simp[bT O])) rfl) (iN gr.c);have QY:cA [.tup af,.int ae,.int G]=sO true:=by
  obtain⟨a,k,ax,rfl,d⟩:=id gr;rw[lq O ae,Aq (show a<=ae from hk)]
 have Ti:cB [.tup af,.int ae,.int G]=sO (decide (kindOf r∈[("paper" : Str),"like","copy"])):=aw rfl (ay (dA (p:=true) (aN [.tup af,.int ae,.int G] rfl QY) λ_=>bX (.str (kindOf r)) (.tup ([("paper" : Str),"like","copy"].map .str)) (wd _ 2 rfl rfl) rfl (nQ _ _)));have hb:eF [.tup af,.int ae,.int G]=sO true:=by
  refine(aw rfl (ay (no (aN [.tup af,.int ae,.int G] rfl (m9 O gr)) λ_=>aN [.tup af,.int ae,.int G] rfl Ti))).trans ?_;rw[Aq hk,Bool.true_and];have:∀k∈fj,(decide (k = "leave") || decide (k∈[("paper" : Str),"like","copy"]))=true:=by decide +kernel
  unfold nZ;rw[this _ U]
 have SH:decide (kindOf r = "copy")=false:=by
  have:∀k∈fj,decide (k = "copy")=false:=by decide +kernel
  exact this _ U
 have T:=Db hl ae cs r G;have KA:bD ((zQ (av af ae) cs r G).map Aw)=true:=cf λd hd=>by obtain⟨b,_,rfl⟩:=vO hd;exact Hg b
 refine aw rfl (aK (bN (p:=true) (dD (aN [.tup af,.int ae,.int G] rfl hb))) (aK (ci (a:=kindOf r) (bb:=false) (wd _ 3 rfl rfl) SH) (cG (ds:=(zQ (av af ae) cs r G).map Aw) ?_ KA (ay (Hj (b:=false) _ T (Ev hn cs r G) rfl)))));have ho:=Es g (by omega) ae hn cs Qv O U;have hv:=Eu g (by omega) ae O U;refine cK (x:=.lst (((bV (av af ae)).filter (ul cs r)).map (MV cs r))) (y:=.lst (((tG (av af ae) (dm r)).filter (Bv r G)).map λx=>.tup [.str "leave",.int x.2])) (b1:=true) (b2:=true) (aN [.tup af,.int ae,.lst (cs.map bu),.int G] rfl ho) (aN [.tup af,.int ae,.int G] rfl hv) ?_;have M:=T;unfold zQ at M ⊢;rw[uZ,vI,vI]at M;refine(if_pos (eA (by rw[vI,vI];omega))).trans ?_;rw[uW,uP,uP];rfl
end
def MY (K:KL)(c r:D):Bool:=decide (dm c=dm r) || (!decide (kindOf r = "copy") && (bV K).any λv=>decide (iT v &&& iT r=iT r) && ki (bB K) (aV 0 v) (aV 3 v) (dm c) (aY c))
def Bw {α:Type}(l:List α)(p f:α->Bool):((l.filter p).map f).any id=l.any λx=>p x && f x:=by
 induction l with
 |nil=>rfl
 |cons x l G=>
  rw[filter_cons,any_cons,←G];cases h:p x with
  |true=>rw[if_pos rfl,uY,any_cons];rfl
  |false=>rw[if_neg (by decide)];rfl
def MZ {af:LD}(g:∀r∈af,ce r)(hl:af.length<=60)(ae:Int)(lu:(bB (av af ae)).length<=60)(hn:((bV (av af ae)).map (aV 0)).Nodup){M O:Nat}{c r:D}(hc:af[M]? = some c)(hr:af[O]? = some r)(kc:kindOf c = "call")(kr:kindOf r∈cw):
  mv [.tup af,.int ae,.lst ((bB (av af ae)).map bu),.int M,.int O]=sO (MY (av af ae) c r):=by
 have gC:gQ af:=⟨hl,λr hr=>(g r hr).c⟩;have gc:=g c (vL hc);have gr:=g r (vL hr);have ac:=bT hc;have ar:=bT hr;have pc:=CV gc (jW (.inr kc));have pr:=CV gr (jW (.inl kr));have T:∀v∈bV (av af ae),ce v/\bp v=true:=λv hv=>by
  obtain⟨x,hx,rfl⟩:=vO hv;obtain⟨h1,h2⟩:=vN hx;exact⟨g _ (vL (bI h1)),h2⟩
 have Yp:(bV (av af ae)).length<=60:=by
  unfold bV;rw[vI];exact vR (vM _ _) (vR (cD af ae) hl)
 have K4:aQ [c]=sI (aY c):=by
  have:=wn gc.c;unfold xS at this;rwa [if_neg (by unfold bp;rw[kc];decide +kernel)]at this
 have US:∀(v7:OB),aT (f2 dj (am 6) (fA au (fV 5 (ag (fS "by") aj)))) [sT af,sI ae,sL ((bB (av af ae)).map bu),sI M,sI O,some (r,false),sS (dm c),v7]=some (decide (dm c=dm r)):=λv7=>dD (bX (.str (dm c)) (.str (dm r)) rfl (aN [r,.str "by"] rfl pr) (by simp));have UT:∀(v7:OB),aT (f2 dj (fA a9 (fV 5 aj)) (fS "copy")) [sT af,sI ae,sL ((bB (av af ae)).map bu),sI M,sI O,some (r,false),sS (dm c),v7]=some (decide (kindOf r = "copy")):=λv7=>ci (a:=kindOf r) (bb:=false) (aN [r] rfl (iN gr.c)) rfl;refine aw rfl (jC r (bX (.tup af) (.int O) rfl rfl (by simp[ar])) gr.flat (jC (.str (dm c)) (aN [c,.str "by"] (bY (bX (.tup af) (.int M) rfl rfl (by simp[ac])) rfl) pc) rfl ?_));unfold MY;cases h1:decide (dm c=dm r) with
 |true=>exact bF ((US none).trans (by rw[h1])) (ay rfl)
 |false=>
  refine aK ((US none).trans (by rw[h1])) ?_;cases h2:decide (kindOf r = "copy") with
  |true=>exact bF ((UT none).trans (by rw[h2])) (ay rfl)
  |false=>
   have kb:kindOf r∈fj:=by
    have Dp:=of_decide_eq_false h2;have:∀k∈cw,k ≠ "copy"->k∈fj:=by decide +kernel
    exact this _ kr Dp
   have pm:=xY gr kb;refine aK ((UT none).trans (by rw[h2])) ?_;have G:=fW (fi:=rG (fA gJ (fV 0 (fV 1 aj)))) (nT:=1) (cap:=[5]) (tg:=cU 0) (c:=aT (fA iJ (ag (fA au (fV 0 (ag (fS "matters") aj))) (ag (fA au (fV 1 (ag (fS "matters") aj))) aj)))) (fe:=am 0)
    (ρ:=[sT af,sI ae,sL ((bB (av af ae)).map bu),sI M,sI O,some (r,false),sS (dm c),none]) (bV (av af ae)) id (λv=>decide (iT v &&& iT r=iT r)) id
    (by show(fA gJ _ _).bind _=_;rw[aN [.tup af,.int ae] rfl (tm gC ae),tu hn];simp) (by omega) λv hv=>by
     obtain⟨gv,U⟩:=T v hv;exact⟨[some (v,false),some (r,false)],rfl,dD (aN [.int (iT v),.int (iT r)] (aS (aN [v,.str "matters"] rfl (CU gv U)) (aS (aN [r,.str "matters"] rfl pm) rfl)) (wy _ _)),λ_=>⟨false,rfl⟩⟩
   rw[map_id]at G;refine cG (ds:=(bV (av af ae)).filter λv=>decide (iT v &&& iT r=iT r)) G (cf λv hv=>(T v (vN hv).1).1.flat) (ay ?_);have Qw:=px (fi:=bM (am 7)) (nT:=1) (cap:=[2,6,0,3]) (tg:=cU 0) (fe:=fA dC (fV 1 (fV 0 (fV 2 (ag (fA aQ (ag (f2 bK (am 3) (am 4)) aj)) aj)))))
    (ρ:=[sT af,sI ae,sL ((bB (av af ae)).map bu),sI M,sI O,some (r,false),sS (dm c),lT ((bV (av af ae)).filter λv=>decide (iT v &&& iT r=iT r))]) ((bV (av af ae)).filter λv=>decide (iT v &&& iT r=iT r)) id (λv=>.bl (ki (bB (av af ae)) (aV 0 v) (aV 3 v) (dm c) (aY c)))
    (by simp) (vR (vM _ _) (by omega)) λv hv=>by
     obtain⟨gv,U⟩:=T v (vN hv).1;obtain⟨a,o,rl,m,f,rfl,_,_⟩:=tq gv U;exact⟨[some (row a ("root" : Str) [.str o,.int m,.int f,.str rl],false),sL ((bB (av af ae)).map bu),sS (dm c),sT af,sI M],rfl,false,aN [.lst ((bB (av af ae)).map bu),row a ("root" : Str) [.str o,.int m,.int f,.str rl],.str (dm c),.int (aY c)] (bY rfl (bY rfl (bY rfl (aS (aN [c] (bY (bX (.tup af) (.int M) rfl rfl (by simp[ac])) rfl) K4) rfl)))) (CO _ lu _ _)⟩
   refine(aN [_] (aS Qw rfl) ?_);show(ub _).map _=_;rw[rQ,map_some,Bw];rfl
def By (g:ce r)(h:kindOf r = "call"):∃a d b,∃n:Nat,r=row a ("call" : Str) [.int d,.str b,.int n]:=by
 obtain⟨a,k,ax,rfl,d⟩:=g;have hk:k = "call":=h;clear h;cases d with
 |copy k G d b n=>subst hk;exact⟨a,d,b,n,rfl⟩
 |root=>exact jp hk
 |named=>exact jp hk
 |three k G=>rcases G with rfl|rfl|rfl<;>exact jp hk
 |leave=>exact jp hk
 |paper k G=>rcases G with rfl|rfl<;>exact jp hk
def Kc (af:LD)(ae:Int)(G:Nat)(r:D)(day:Int)(c:D):Bool:=decide (kindOf c = "call") && (decide (kj 2 c=G) && (decide (aY c<=day) && (ln af ae c && MY (av af ae) c r)))
def Bz (e:f ρ=some (.str a,bb)):aT (f2 xa f (fS b)) ρ=some (!decide (a=b)):=dD (cK (x:=.str a) (y:=.str b) (b1:=bb) (b2:=false) e rfl (by simp))
section
variable {af:LD}(g:∀r∈af,ce r) (hl:af.length<=60) (ae:Int) (lu:(bB (av af ae)).length<=60) (hn:((bV (av af ae)).map (aV 0)).Nodup)
include g hl lu hn
theorem zS {M G:Nat}{c r:D}(hc:af[M]? = some c)(U:af[G]? = some r)(kr:kindOf r∈cw)(day:Int):jS [.tup af,.int ae,.lst ((bB (av af ae)).map bu),.int M,.int G,.int day]=sO (Kc af ae G r day c):=by
 have T:=g c (vL hc);have ac:=bT hc;have tw:aT (f2 xa (fA a9 (fV 6 aj)) (fS "call")) [sT af,sI ae,sL ((bB (av af ae)).map bu),sI M,sI G,sI day,some (c,false)]=some (!decide (kindOf c = "call")):=Bz (a:=kindOf c) (bb:=false) (aN [c] rfl (iN T.c));refine aw rfl (jC c (bX (.tup af) (.int M) rfl rfl (by simp[ac])) T.flat ?_);unfold Kc;by_cases hk:kindOf c = "call"
 ·obtain⟨a,d,b,n,ec⟩:=By T hk;have e1:kj 2 c=(n:Int):=by rw[ec];rfl
  have e2:aY c=d:=by rw[ec];rfl
  have po:au [c,.str "of"]=sI n:=by rw[ec];exact bA (i:=2) cC rfl
  have pd:aQ [c]=sI d:=by
   have:=wn T.c;unfold xS at this;rwa [if_neg (by unfold bp;rw[hk];decide +kernel),e2]at this
  have t2:aT (f2 xa (fA au (fV 6 (ag (fS "of") aj))) (am 4)) [sT af,sI ae,sL ((bB (av af ae)).map bu),sI M,sI G,sI day,some (c,false)]=some (!decide ((n:Int)=G)):=dD (bX (.int n) (.int G) (aN [c,.str "of"] rfl po) rfl (by simp));have t3:aT (f2 EC (fA aQ (fV 6 aj)) (am 5)) [sT af,sI ae,sL ((bB (av af ae)).map bu),sI M,sI G,sI day,some (c,false)]=some (decide (day<d)):=dD (bX (.int d) (.int day) (aN [c] rfl pd) rfl rfl);have O:=ee tw λ_=>ee t2 λ_=>t3;rw[e1,e2,Aq hk,Bool.true_and];rw[Aq hk]at O;by_cases h1:(n:Int)=G
  ·by_cases h2:d<=day
   ·rw[Aq h1,Aq h2,Bool.true_and,Bool.true_and];rw[Aq h1,PK (by omega)]at O;exact aK O (ay (dA (aN [.tup af,.int ae,.int M] rfl (zH af (λr U=>(g r U).c.rp) (by omega) ae hc)) λ_=>aN [.tup af,.int ae,.lst ((bB (av af ae)).map bu),.int M,.int G] rfl (MZ g hl ae lu hn hc U hk kr)))
   ·rw[PK h2,Bool.false_and,Bool.and_false];rw[Aq h1,Aq (show day<d by omega)]at O;exact bF O (ay rfl)
  ·rw[PK h1,Bool.false_and];rw[PK h1]at O;exact bF O (ay rfl)
 ·rw[PK hk,Bool.false_and];refine bF (ee (p:=true) (q:=false) (tw.trans (by rw[PK hk];rfl)) λh=>by cases h) (ay rfl)
def oR (af:LD)(ae:Int)(G:Nat)(r:D)(day:Int):LN:=if br r<=ae/\kindOf r∈cw then ((av af ae).filter λx=>Kc af ae G r day x.1).map (·.2)else []
theorem zU {G:Nat}{r:D}(M:af[G]? = some r)(day:Int):mw [.tup af,.int ae,.lst ((bB (av af ae)).map bu),.int G,.int day]=lT ((oR af ae G r day).map λn:Nat=>.int n):=by
 have gr:=g r (vL M);have ar:=bT M;have T:cA [.tup af,.int ae,.int G]=sO (decide (br r<=ae)):=by
  obtain⟨a,k,ax,e,d⟩:=gr;rw[e]at M;rw[show br r=a by rw[e];rfl];exact lq M ae
 have wd:∀ρ:DL.Env,ρ[0]? = some (sT af)->ρ[2]? = some (sI G)->fA a9 (ag (f2 bK (am 0) (am 2)) aj) ρ=sS (kindOf r):=λρ h0 h2=>aN [r] (bY (bX (.tup af) (.int G) (by simp[h0]) (by simp[h2]) (by simp[ar])) rfl) (iN gr.c);have U:gt [.tup af,.int ae,.int G]=sO (decide (br r<=ae) && decide (kindOf r = "leave")):=aw rfl (ay (dA (aN [.tup af,.int ae,.int G] rfl T) λ_=>bX (.str (kindOf r)) (.str "leave") (wd _ rfl rfl) rfl (by simp)));have Ti:cB [.tup af,.int ae,.int G]=sO (decide (br r<=ae) && decide (kindOf r∈[("paper" : Str),"like","copy"])):=aw rfl (ay (dA (aN [.tup af,.int ae,.int G] rfl T) λ_=>bX (.str (kindOf r)) (.tup ([("paper" : Str),"like","copy"].map .str)) (wd _ rfl rfl) rfl (nQ _ _)));have hb:eF [.tup af,.int ae,.int G]=sO (decide (br r<=ae/\kindOf r∈cw)):=by
  refine(aw rfl (ay (no (aN [.tup af,.int ae,.int G] rfl U) λ_=>aN [.tup af,.int ae,.int G] rfl Ti))).trans ?_;congr 3;simp only[cw,mem_cons,not_mem_nil,or_false];by_cases h1:br r<=ae
  ·simp[h1]
  ·simp[h1]
 unfold oR;by_cases hx:br r<=ae/\kindOf r∈cw
 ·rw[if_pos hx];refine aw rfl (aK (bN (p:=true) (dD (aN [.tup af,.int ae,.int G] rfl (by rw[hb,Aq hx])))) (ay ?_));have O:=fW (fi:=bM (fA cE (fV 0 (fV 1 aj)))) (nT:=1) (cap:=[0,1,2,3,4]) (tg:=cU 0) (c:=aT (fA jS (fV 1 (fV 2 (fV 3 (fV 0 (fV 4 (fV 5 aj)))))))) (fe:=am 0)
   (ρ:=[sT af,sI ae,sL ((bB (av af ae)).map bu),sI G,sI day]) (av af ae) (λx=>.int x.2) (λx=>Kc af ae G r day x.1) (λx=>.int x.2)
   (by show(fA cE _ _).bind _=_;rw[aN [.tup af,.int ae] rfl (lm af (λr M=>(g r M).c.rp) (by omega) ae)];rfl) (vR (cD af ae) (by omega)) λx hx2=>by
    exact⟨_,rfl,dD (aN [.tup af,.int ae,.lst ((bB (av af ae)).map bu),.int x.2,.int G,.int day] rfl (zS g hl ae lu hn (bI hx2) M hx.2 day)),λ_=>⟨false,rfl⟩⟩
  rw[uP];exact O
 ·rw[if_neg hx];exact aw rfl (bF (bN (p:=false) (dD (aN [.tup af,.int ae,.int G] rfl (by rw[hb,PK hx])))) (ay (aN [] rfl (gA _ (by simp)))))
omit lu in
end
noncomputable def cX:LS:=[("paper" : Str),"like","copy"]
noncomputable def Hk (w:Str):Bs->D
 | (some o,n)=>.tup [.str "office",.str o,.int n]
 | (none,n)=>.tup [.str w,.int n]
def Na (r:D):Str:=if kindOf r = "copy" then ("copy" : Str)else ("leave" : Str)
def Ew (b:Bs):Hk ("leave" : Str) b=Aw b:=by rcases b with⟨_|o,n⟩<;>rfl
def Ex {af:LD}{n:Nat}(h:af.length<=n)(ae:Int):cA [.tup af,.int ae,.int n]=sO false:=by
 refine aw rfl (ay (dA (p:=false) (q:=false) (b1:=false) ?_ λz=>by cases z));have h1:¬(n:Int)<af.length:=by omega
 exact(zq (p:=true) (q:=false) (x:=.int 0) (y:=.int n) (z:=.int af.length) (b1:=false) (b2:=false) (b3:=false) (b4:=false) rfl rfl (by simp) (by simp) λ_=>by simp[h1])
def Hl {af:LD}{i:Nat}{r:D}(G:af[i]? = some r)(g:ce r)(ae:Int):cA [.tup af,.int ae,.int i]=sO (decide (br r<=ae)):=by
 obtain⟨a,k,ax,rfl,d⟩:=g;exact lq G ae
def Dc {af:LD}{i:Nat}{r:D}(G:af[i]? = some r)(g:ce r){ρ:DL.Env}{j:Nat}(h0:ρ[0]? = some (sT af))(hj:ρ[j]? = some (sI i)):fA a9 (ag (f2 bK (am 0) (am j)) aj) ρ=sS (kindOf r) :=
 aN [r] (bY (bX (.tup af) (.int i) (by simp[h0]) (by simp[hj]) (by simp[bT G])) rfl) (iN g.c)
def oe {af:LD}{i:Nat}{r:D}(G:af[i]? = some r)(g:ce r)(ae:Int):cB [.tup af,.int ae,.int i]=sO (decide (br r<=ae) && decide (kindOf r∈cX)) :=
 aw rfl (ay (dA (aN [.tup af,.int ae,.int i] rfl (Hl G g ae)) λ_=>bX (.str (kindOf r)) (.tup (cX.map .str)) (Dc G g rfl rfl) rfl (nQ _ _)))
def zV {af:LD}{i:Nat}{r:D}(G:af[i]? = some r)(g:ce r)(ae:Int):eF [.tup af,.int ae,.int i]=sO (decide (br r<=ae) && decide (kindOf r∈cw)):=by
 refine(aw rfl (ay (no (aN [.tup af,.int ae,.int i] rfl (m9 G g)) λ_=>aN [.tup af,.int ae,.int i] rfl (oe G g ae)))).trans ?_;congr 3;unfold nZ;simp only[cw,cX,mem_cons,not_mem_nil,or_false];by_cases h1:br r<=ae
 ·simp[h1]
 ·simp[h1]
def tH (af:LD)(ae:Int)(r:D)(G n:Nat):Bool:=match af[n]? with
 |none=>false
 |some q=>(decide (br q<=ae) && decide (kindOf q∈cX)) && nR (q,n) (r,G)
def tI (g:ce r)(h:kindOf r = "copy"):∃a d b,∃n:Nat,r=row a ("copy" : Str) [.int d,.str b,.int n]:=by
 obtain⟨a,k,ax,rfl,d⟩:=g;have hk:k = "copy":=h;clear h;cases d with
 |copy k G d b n=>subst hk;exact⟨a,d,b,n,rfl⟩
 |root=>exact jp hk
 |named=>exact jp hk
 |three k G=>rcases G with rfl|rfl|rfl<;>exact jp hk
 |leave=>exact jp hk
 |paper k G=>rcases G with rfl|rfl<;>exact jp hk
def tJ (h:kindOf r∈cX):bp r=false:=by
 have:∀k∈cX,decide (k = "root")=false:=by decide +kernel
 exact this _ h
def Ey {af:LD}(g:∀r∈af,ce r)(ae:Int){G:Nat}{r:D}(O:af[G]? = some r)(T:kindOf r = "copy"):∃n:Nat,kj 2 r=n/\jR [.tup af,.int ae,.int G]=lT ((if tH af ae r G n=true then [((none,(n:Int)):Bs)]else []).map (Hk ("copy" : Str))):=by
 have U:=g r (vL O);obtain⟨a,d,b,n,er⟩:=tI U T;have nr:bp r=false:=tJ (by rw[T];decide +kernel);have po:au [r,.str "of"]=sI n:=by rw[er];exact bA (i:=2) cC rfl
 refine⟨n,by rw[er];rfl,?_⟩;let E:DL.Env:=[sT af,sI ae,sI G,sI n];refine aw rfl (jC (.int n) (aN [r,.str "of"] (bY (bX (.tup af) (.int G) rfl rfl (by simp[bT O])) rfl) po) rfl ?_);have M:eU (aT (fA cB (fV 0 (fV 1 (fV 3 aj))))) (aT (fA gu (fV 0 (fV 3 (fV 2 aj))))) E=some (tH af ae r G n):=by
  unfold tH;cases hq:af[n]? with
  |none=>
   have hn:af.length<=n:=List.getElem?_eq_none_iff.mp hq;exact ft (p:=false) (q:=false) (dD (aN [.tup af,.int ae,.int n] rfl (aw rfl (ay (dA (p:=false) (q:=false) (aN [.tup af,.int ae,.int n] rfl (Ex hn ae)) λz=>by cases z))))) λz=>by cases z
  |some q=>
   have gq:=g q (vL hq);exact ft (dD (aN [.tup af,.int ae,.int n] rfl (oe hq gq ae))) λh=>by
    rw[vC]at h;exact dD (aN [.tup af,.int n,.int G] rfl (zO hq O gq U (tJ (PN h.2)) nr))
 cases hv:tH af ae r G n with
 |true=>
  rw[hv]at M;rw[if_pos rfl];exact bF M (ay (aN [.tup [.str "copy",.int n]] (bY (aN [.str "copy",.int n] rfl (cz _ (by simp))) rfl) (gA _ (by simp))))
 |false=>
  rw[hv]at M;rw[if_neg (by decide)];exact aK M (ay (aN [] rfl (gA _ (by simp))))
def tK (af:LD)(ae:Int)(cs:List Cl)(x:D×Nat):List Bs:=if kindOf x.1 = "copy" then (if tH af ae x.1 x.2 (kj 2 x.1).toNat=true then [(none,kj 2 x.1)]else [])else MX (av af ae) cs x.1 x.2
section
variable {af:LD}(g:∀r∈af,ce r) (hl:af.length<=30) (ae:Int) (hn:((bV (av af ae)).map (aV 0)).Nodup)
include g hl hn
theorem Kd (cs:List Cl)(T:cs.length<=60){M:Nat}{r:D}(O:af[M]? = some r)(U:kindOf r∈cw)(hk:br r<=ae):fB [.tup af,.int ae,.lst (cs.map bu),.int M]=lT ((tK af ae cs (r,M)).map (Hk (Na r))):=by
 have gr:=g r (vL O);unfold tK Na;by_cases G:kindOf r = "copy"
 ·rw[if_pos G,if_pos G];obtain⟨n,e1,e2⟩:=Ey g ae O G;rw[e1,toNat_natCast];refine aw rfl (aK (bN (p:=true) (dD (aN [.tup af,.int ae,.int M] rfl ((zV O gr ae).trans (by rw[Aq hk,Aq U];rfl))))) (bF (ci (a:=kindOf r) (bb:=false) (Dc O gr rfl rfl) (Aq G)) (ay (aN [.tup af,.int ae,.int M] rfl e2))))
 ·rw[if_neg G,if_neg G];have kb:kindOf r∈fj:=by
   have:∀k∈cw,k ≠ "copy"->k∈fj:=by decide +kernel
   exact this _ U G
  rw[show Hk ("leave" : Str)=Aw from funext Ew];exact zR g hl ae hn cs T O kb hk
end
def Nb (e:f (gU ρ)=some (d,b))(k:h (ρ.set i (some (d,false)))=r):a8 (yr i f) h ρ=r:=dP (ρ':=ρ.set i (some (d,false))) (by simp only[yr,e,map_some]) k
def De (e:ρ[i]? = some (some (.dk ks vs,b))):hG i ρ=some (.rt (.dk ks vs) false):=by simp[hG,e]
noncomputable def kN (x:D×Nat):eK:=.inl (x.2:Int)
def Hm (af:LD)(ae day:Int)(x:D×Nat):Bool:=(ln af ae x.1 && decide (aY x.1<=day)) && (oR af ae x.2 x.1 day).isEmpty
def Ke {α:Type}(l:List α)(f:α->D):decide ((((l.map f).length:Nat):Int)=0)=l.isEmpty:=by
 cases l with
 |nil=>rfl
 |cons a l=>rw[uY,vE];exact PK (by omega)
noncomputable def oh (af:LD)(ae day:Int)(l:KL):KL:=l.filter λx=>decide (kindOf x.1∈cw) && Hm af ae day x
section
variable {af:LD}(g:∀r∈af,ce r) (hl:af.length<=30) (ae:Int) (hn:((bV (av af ae)).map (aV 0)).Nodup)
include g hl hn
theorem Nc (O:(bB (av af ae)).length<=60){G:Nat}{r:D}(M:af[G]? = some r)(kr:kindOf r∈cw)(day:Int):nH [.tup af,.int ae,.lst ((bB (av af ae)).map bu),.int G,.int day]=sO (Hm af ae day (r,G)):=by
 have gr:=g r (vL M);have nr:bp r=false:=by
  have:∀k∈cw,decide (k = "root")=false:=by decide +kernel
  exact this _ kr
 let E:DL.Env:=[sT af,sI ae,sL ((bB (av af ae)).map bu),sI G,sI day];have t1:aT (fA gp (fV 0 (fV 1 (fV 3 aj)))) E=some (ln af ae r):=dD (aN [.tup af,.int ae,.int G] rfl (zH af (λr M=>(g r M).c.rp) (by omega) ae M));have t2:aT (f2 EC (fA aQ (ag (f2 bK (am 0) (am 3)) aj)) (am 4)) E=some (decide (day<aY r)):=dD (bX (.int (aY r)) (.int day) (aN [r] (bY (bX (.tup af) (.int G) rfl rfl (by simp[bT M])) rfl) (tE gr nr)) rfl rfl);have T:=ee (bN t1) λ_=>t2;have e:(!ln af ae r || decide (day<aY r)) = !(ln af ae r && decide (aY r<=day)):=by
  rw[Bool.not_and];congr 1;rw[←decide_not];congr 1;rw[Int.not_le]
 rw[e]at T;unfold Hm;cases U:(ln af ae r && decide (aY r<=day)) with
 |false=>
  rw[U]at T;exact aw rfl (bF T (ay rfl))
 |true=>
  rw[U]at T;refine aw rfl (aK T (ay ?_));rw[Bool.true_and,←Ke (oR af ae G r day) λn:Nat=>.int n];exact bX (.int (((oR af ae G r day).map λn:Nat=>D.int n).length:Nat)) (.int 0) (aN [.lst ((oR af ae G r day).map λn:Nat=>.int n)] (aS (aN [.tup af,.int ae,.lst ((bB (av af ae)).map bu),.int G,.int day] rfl (zU g (by omega) ae O hn M day)) rfl) rfl) rfl (by simp)
theorem Hn (ho:(dn (av af ae)).length<=60)(day:Int):xN [.tup af,.int ae,.int day]=sF (.dk ((oh af ae day (dn (av af ae))).map kN) ((oh af ae day (dn (av af ae))).map λx=>.lst ((tK af ae (bB (av af ae)) x).map (Hk (Na x.1))))):=by
 have gC:gQ af:=⟨by omega,λr T=>(g r T).c⟩;obtain⟨ec,M⟩:=Ep (af:=af) gC ae ho;have eL:eC [.tup af,.int ae]=lT ((dn (av af ae)).map λx=>.int x.2):=pO gC ae;generalize U:bB (av af ae)=cs at ec M ⊢;have G:∀x∈dn (av af ae),x∈av af ae:=λx hx=>(vN ((bH _ _).mem_iff.mp hx)).1;have NF:((dn (av af ae)).map (·.2)).Nodup:=lH (eI af ae);generalize dn (av af ae)=O at ho eL G NF ⊢;let vD:D×Nat->D:=λx=>.lst ((tK af ae cs x).map (Hk (Na x.1)));let E:KL->OB->DL.Env:=λL v5=>[sT af,sI ae,sI day,sL (cs.map bu),some (.dk (L.map kN) (L.map vD),true),v5];obtain⟨ρ',e,v5,rfl⟩:=eZ (tg:=cU 5) (g:=z6) (λj ρ=>∃v5,ρ=E (oh af ae day (O.take j)) v5) (O.map λx=>.int x.2) (E [] none) ⟨none,rfl⟩ (by
  rintro j d ρ hd ⟨v5,rfl⟩;rw[vA]at hd;obtain⟨x,hx,rfl⟩:=oY hd;have QX:=G x (vL hx);have T:=bI QX;have QY:br x.1<=ae:=PN (vN QX).2;have gx:=g x.1 (vL T);have et:O.take (j+1)=O.take j++[x]:=by rw[take_add_one,hx];rfl
  have ef:oh af ae day (O.take (j+1))=oh af ae day (O.take j)++if(decide (kindOf x.1∈cw) && Hm af ae day x)=true then [x]else []:=by
   unfold oh;rw[et,filter_append,filter_cons];split<;>rfl
  have UU:x.2∉(oh af ae day (O.take j)).map (·.2):=by
   have h2:((O.take (j+1)).map (·.2)).Nodup:=List.Nodup.sublist (List.Sublist.map _ (take_sublist _ _)) NF;rw[et,uW,nodup_append]at h2;intro hm;obtain⟨y,hy,ey⟩:=vO hm;exact h2.2.2 _ (uS ⟨y,(vN hy).1,rfl⟩) _ (by simp) ey
  have XG:(oh af ae day (O.take j)).length<=60:=vR (vM _ _) (vR (List.length_take_le' _ _) ho);generalize oh af ae day (O.take j)=L at ef UU XG;let F:DL.Env:=E L (sI x.2);have t1:aT (fA eF (fV 0 (fV 1 (fV 5 aj)))) F=some (decide (kindOf x.1∈cw)):=dD (aN [.tup af,.int ae,.int x.2] rfl ((zV T gx ae).trans (by rw[Aq QY,Bool.true_and])));have tt:=ft t1 λh=>dD (f:=fA nH (fV 0 (fV 1 (fV 3 (fV 5 (fV 2 aj)))))) (aN [.tup af,.int ae,.lst (cs.map bu),.int x.2,.int day] rfl (by rw[←U];exact Nc g hl ae hn (by rw[U];exact M) T (PN h) day));refine⟨F,E (L++if(decide (kindOf x.1∈cw) && Hm af ae day x)=true then [x]else []) (sI x.2),rfl,.inl (Pr tt (λh=>?_) λh=>?_),sI x.2,by rw[ef]⟩
  ·rw[if_pos h];have kb:kindOf x.1∈cw:=by rw[vC]at h;exact PN h.1
   have Tj:rJ 4 (am 5) (fA fB (fV 0 (fV 1 (fV 3 (fV 5 aj))))) F=some (.nx (F.set 4 (some (.dk (hZ (L.map kN) (kN x)) (eY (L.map kN) (L.map vD) (kN x) (vD x)),true)))):=by
    have ev:fA fB (fV 0 (fV 1 (fV 3 (fV 5 aj)))) (gU F)=some (vD x,true):=aN [.tup af,.int ae,.lst (cs.map bu),.int x.2] rfl (Kd g hl ae hn cs M T kb QY);show((fA fB _ (gU F)).bind _)=_;rw[ev];simp only[vJ];exact if_pos (c:=(L.map kN).length<sizeLine) (cR (by rw[vI];omega))
   rw[Tj];have hk:kN x∉L.map kN:=λhm=>by
    obtain⟨y,hy,ey⟩:=vO hm;exact UU (uS ⟨y,hy,by have:=Sum.inl.inj (show(Sum.inl (y.2:Int):eK)=Sum.inl (x.2:Int)from ey);omega⟩)
   unfold hZ eY;rw[if_neg hk,if_neg hk];simp[F,E]
  ·rw[h,if_neg (by decide),uQ];rfl)
 rw[vI,take_length]at e;exact aw rfl (Nb (aN [.tup af,.int ae] rfl ec) (dP (ρ':=E [] none) rfl (dP (gI (ds:=O.map λx=>.int x.2) (by show(fA eC _ _).bind _=_;rw[aN [.tup af,.int ae] rfl eL];rfl) e) (De (b:=true) rfl))))
end
noncomputable def nK (n:Nat):eK:=.inl (n:Int)
noncomputable def Ih:Nat->D:=λ_=>.bl true
noncomputable def lX (S:LN)(b:Bs):Bool:=b.1.isSome || S.any λn=>decide ((n:Int)=b.2)
noncomputable def gS (S:LN)(p:Nat×List Bs):LN:=if p.2.any (lX S)=true then S++[p.1]else S
noncomputable def jq (l:List (Nat×List Bs)):LN:=l.foldl gS []
theorem zW (n:Int):∀S:LN,(fU (S.map nK) (S.map Ih) (.inl n)).isSome=S.any λm=>decide ((m:Int)=n)
 |[]=>rfl
 |m::S=>by
  rw[uY,uY,fU,any_cons];by_cases h:(m:Int)=n
  ·rw[if_pos (show nK m=.inl n by unfold nK;rw[h]),Aq h];rfl
  ·rw[if_neg (show ¬nK m=.inl n from λz=>h (Sum.inl.inj z)),PK h,zW n S];rfl
def Ho (hw:decide (w=("office" : Str))=false)(S:LN)(b:Bs):nI [Hk w b,.dk (S.map nK) (S.map Ih)]=sO (lX S b):=by
 unfold lX;rcases b with⟨_|o,n⟩
 ·refine aw rfl (ay (no (p:=false) (b1:=false) (bX (.str w) (.str "office") rfl rfl (by simp[of_decide_eq_false hw])) λ_=>bX (.int n) (.dk (S.map nK) (S.map Ih)) rfl rfl ?_));show some (D.bl (fU (S.map nK) (S.map Ih) (.inl n)).isSome,false)=_;rw[zW]
 ·exact aw rfl (ay (no (p:=true) (q:=S.any λm=>decide ((m:Int)=n)) (b1:=false) (bX (.str "office") (.str "office") rfl rfl (by simp)) λh=>by cases h))
def any_map {α:Type}(l:List α)(f:α->Bool):F9 [.lst (l.map λx=>.bl (f x))]=sO (l.any f):=by
 show(ub _).map _=_;rw[rQ,map_some,List.any_map];rfl
def zX (h:m∈gS S p):m∈S∨m=p.1:=by
 unfold gS at h;split at h
 ·simpa using h
 ·exact .inl h
theorem w6:∀(l:List (Nat×List Bs))(S:LN)(m:Nat),m∈l.foldl gS S->m∈S∨m∈l.map (·.1)
 |[],_,_,h=>.inl h
 |p::l,S,m,h=>by
  rcases w6 l _ m h with h|h
  ·rcases zX h with h|rfl
   ·exact .inl h
   ·exact .inr (by simp)
  ·exact .inr (mZ _ h)
abbrev Rs:=Nat×Str×List Bs
noncomputable def Lq (p:Rs):D:=.lst (p.2.2.map (Hk p.2.1))
noncomputable def Df (p:Rs):Nat×List Bs:=(p.1,p.2.2)
def Hq (l:List Rs)(hl:l.length<=60)(hw:∀p∈l,decide (p.2.1 = "office")=false)(hb:∀p∈l,p.2.2.length<=100)(hn:(l.map (·.1)).Nodup):xO [.dk (l.map λp=>nK p.1) (l.map Lq)]=sF (.dk ((jq (l.map Df)).map nK) ((jq (l.map Df)).map Ih)):=by
 let E:LN->OB->OB->DL.Env:=λS G M=>[sF (.dk (l.map λp=>nK p.1) (l.map Lq)),some (.dk (S.map nK) (S.map Ih),true),G,M];have tS:mq (l.map λp=>nK p.1) (l.map Lq)=l.map λp=>.tup [.int (p.1:Int),Lq p]:=by
  unfold mq;rw[zip_map',uP];rfl
 obtain⟨ρ',e,G,M,rfl⟩:=eZ (tg:=DG [2,3]) (g:=z7) (λj ρ=>∃G M,ρ=E (jq ((l.take j).map Df)) G M) (l.map λp=>.tup [.int (p.1:Int),Lq p]) (E [] none none) ⟨none,none,rfl⟩ (by
  rintro j d ρ hd ⟨G,M,rfl⟩;rw[vA]at hd;obtain⟨p,hp,rfl⟩:=oY hd;have O:=vL hp;have et:l.take (j+1)=l.take j++[p]:=by rw[take_add_one,hp];rfl
  have es:jq ((l.take (j+1)).map Df)=gS (jq ((l.take j).map Df)) (Df p):=by
   rw[et,uW];unfold jq;rw[foldl_append];rfl
  have T:p.1∉jq ((l.take j).map Df):=λhm=>by
   have h2:((l.take (j+1)).map (·.1)).Nodup:=List.Nodup.sublist (List.Sublist.map _ (take_sublist _ _)) hn;rw[et,uW,nodup_append]at h2;rcases w6 _ _ _ hm with h|h
   ·cases h
   ·rw[uP]at h;exact h2.2.2 _ h _ (by simp) rfl
  have NE:(jq ((l.take j).map Df)).length<=60:=by
   have:∀(q:List (Nat×List Bs))(S:LN),(q.foldl gS S).length<=S.length+q.length:=λq=>by
    induction q with
    |nil=>intro S;exact vT _
    |cons a q ih=>
     intro S;refine vR (ih _) ?_;unfold gS;split
     ·rw[uZ,vE,length_nil,vE];omega
     ·rw[vE];omega
   have h3:=this ((l.take j).map Df) [];rw[vI,length_take,length_nil]at h3;exact vR h3 (by omega)
  generalize jq ((l.take j).map Df)=S at es T NE;let F:DL.Env:=E S (sI (p.1:Int)) (some (Lq p,false));have hc:=px (fi:=bM (am 3)) (nT:=1) (cap:=[1]) (tg:=cU 0) (fe:=fA nI (fV 0 (fV 1 aj))) (ρ:=F) p.2.2 (Hk p.2.1) (λb=>.bl (lX S b)) rfl (by have:=hb p O;omega) λb _=>⟨[some (Hk p.2.1 b,false),sF (.dk (S.map nK) (S.map Ih))],rfl,false,aN [Hk p.2.1 b,.dk (S.map nK) (S.map Ih)] rfl (Ho (hw p O) S b)⟩;have t1:aT (fA F9 (ag (bO (bM (am 3)) 1 [1] (cU 0) fR (fA nI (fV 0 (fV 1 aj)))) aj)) F=some (p.2.2.any (lX S)):=dD (aN [.lst (p.2.2.map λb=>.bl (lX S b))] (aS hc rfl) (any_map _ _));refine⟨F,E (gS S (Df p)) (sI (p.1:Int)) (some (Lq p,false)),rfl,.inl (Pr t1 (λh=>?_) λh=>?_),_,_,by rw[es]⟩
  ·have hk:nK p.1∉S.map nK:=λhm=>by
    obtain⟨y,hy,ey⟩:=vO hm;have:=Sum.inl.inj (show(Sum.inl (y:Int):eK)=Sum.inl (p.1:Int)from ey);exact T (by rw[show p.1=y by omega];exact hy)
   have U:zh 1 (am 2) (fC (.bl true)) F=some (.nx (F.set 1 (some (.dk (hZ (S.map nK) (nK p.1)) (eY (S.map nK) (S.map Ih) (nK p.1) (.bl true)),true)))):=if_pos (c:=bC (.bl true)=true/\(S.map nK).length<sizeLine) ⟨rfl,cR (by rw[vI];omega)⟩;rw[U];unfold hZ eY gS;rw[if_neg hk,if_neg hk,if_pos (show(Df p).2.any (lX S)=true from h)];simp[F,E,Df,Ih]
  ·unfold gS;rw[if_neg (show ¬(Df p).2.any (lX S)=true by show ¬p.2.2.any (lX S)=true;rw[h];decide)];rfl)
 rw[vI,take_length]at e;exact aw rfl (dP (ρ':=E [] none none) rfl (dP (gI (ds:=l.map λp=>.tup [.int (p.1:Int),Lq p]) (by show some (mq _ _)=_;rw[tS]) e) (De (b:=true) rfl)))
theorem w9:∀S:LN,vw (S.map nK)=some (S.map λ(n:Nat)=>(n:Int))
 |[]=>rfl
 |n::S=>by
  show(vw (S.map nK)).map _=_;rw[w9 S];rfl
theorem zY {α G:Type}(g:α->G)(f:G->LI)(x:α):∀l:List α,o7 f (g x) (l.map g)=(o7 (λa=>f (g a)) x l).map g
 |[]=>rfl
 |y::r=>by
  rw[uY,o7,o7];split
  ·rw[uY,zY g f x r]
  ·rfl
theorem wA {α G:Type}(g:α->G)(f:G->LI):∀l:List α,eN f (l.map g)=(eN (λa=>f (g a)) l).map g
 |[]=>rfl
 |x::l=>by
  show o7 f (g x) (eN f (l.map g))=(o7 (λa=>f (g a)) x (eN (λa=>f (g a)) l)).map g;rw[wA g f l,zY]
def Hr (n:Int)(S:LN):Fw (.int n) (S.map λ(m:Nat)=>D.int (m:Int))=S.any λm=>decide ((m:Int)=n):=by
 unfold Fw;induction S with
 |nil=>rfl
 |cons m S G=>
  rw[uY,any_cons,G,any_cons];by_cases h:(m:Int)=n
  ·simp[h]
  ·simp[h,Ne.symm h]
def pV (af:LD)(ae:Int)(x:D×Nat):List Bs:=tK af ae (bB (av af ae)) x
def gD (af:LD)(ae day:Int):LN:=jq ((oh af ae day (dn (av af ae))).map λx=>(x.2,pV af ae x))
def Hs (S:LN):LD:=(ri (S.map λ(n:Nat)=>(n:Int))).map .int
def Nd (r:D):decide (Na r = "office")=false:=by
 unfold Na;split
 ·decide +kernel
 ·decide +kernel
section
variable {af:LD}(g:∀r∈af,ce r) (hl:af.length<=30) (ae:Int) (hn:((bV (av af ae)).map (aV 0)).Nodup) (ho:(dn (av af ae)).length<=60)
include hl
theorem Ht (x:D×Nat):(pV af ae x).length<=60:=by
 unfold pV tK;split
 ·split
  ·exact(by decide:1<=60)
  ·exact uN _
 ·unfold MX;rw[(bH _ _).length_eq];exact Db hl ae _ _ _
theorem lI (day:Int):(gD af ae day).length<=60:=by
 have:∀(q:List (Nat×List Bs))(S:LN),(q.foldl gS S).length<=S.length+q.length:=λq=>by
  induction q with
  |nil=>intro S;exact vT _
  |cons a q G=>
   intro S;refine vR (G _) ?_;unfold gS;split
   ·rw[uZ,vE,length_nil,vE];omega
   ·rw[vE];omega
 have h3:=this ((oh af ae day (dn (av af ae))).map λx=>(x.2,pV af ae x)) [];have h4:(dn (av af ae)).length<=30:=by
  unfold dn;rw[(bH _ _).length_eq];exact vR (vM _ _) (vR (cD af ae) hl)
 have h5:(oh af ae day (dn (av af ae))).length<=30:=vR (vM _ _) h4;rw[vI,length_nil]at h3;exact vR h3 (by omega)
include g hn ho
theorem zZ (day:Int):iL [.tup af,.int ae,.int day]=lT (Hs (gD af ae day)):=by
 have G:=Hn g hl ae hn ho day;have h4:(oh af ae day (dn (av af ae))).length<=60:=vR (vM _ _) ho;have es:=Hq ((oh af ae day (dn (av af ae))).map λx=>(x.2,Na x.1,pV af ae x)) (by rw[vI];exact h4)
  (λp hp=>by obtain⟨x,_,rfl⟩:=vO hp;exact Nd _) (λp hp=>by obtain⟨x,_,rfl⟩:=vO hp;exact vR (Ht hl ae x) (by decide))
  (by rw[uP];exact List.Nodup.sublist (List.Sublist.map _ filter_sublist) (lH (eI af ae)))
 rw[uP,uP,uP]at es;refine aw rfl (ay (aN [_] (aS (aN [_] (aS (aN [.tup af,.int ae,.int day] rfl G) rfl) es) rfl) ?_));show(vw ((gD af ae day).map nK)).bind _=_;rw[w9,vJ,if_pos (by rw[vI];have:=lI hl ae day;omega)];rfl
end
def Dg (n:Nat)(S:LN):(S.any λm=>decide ((m:Int)=(n:Int)))=decide (n∈S):=by
 rw[Bool.eq_iff_iff,List.any_eq_true,decide_eq_true_iff];constructor
 ·rintro⟨m,h,e⟩;have:=PN e;rw[show n=m by omega];exact h
 ·exact λh=>⟨n,h,Aq rfl⟩
def Hu (h:aH 40 d=true):xa d d=sO false:=by
 unfold xa;rw[if_pos ⟨h,h⟩,nN 40 _ h];rfl
def Hv (af:LD)(ae:Int):bV (av af ae)=af.filter λv=>bp v && decide (br v<=ae):=by
 unfold bV av;rw[List.filter_filter];have:∀(l:List (D×Nat))(q:D->Bool),(l.filter λx=>q x.1).map (·.1)=(l.map (·.1)).filter q:=λl q=>by rw[List.filter_map];rfl
 refine(this af.zipIdx λv=>bp v && decide (br v<=ae)).trans ?_;rw[List.zipIdx_map_fst]
def Hw (af:LD)(ae:Int):((bV (av af ae)).map (aV 0)).Sublist (wx af):=by
 rw[Hv];unfold wx;refine List.Sublist.map _ ?_;have:(af.filter λv=>bp v && decide (br v<=ae))=(af.filter bp).filter λv=>decide (br v<=ae):=by rw[List.filter_filter];congr 1;funext v;rw[Bool.and_comm]
 rw[this];exact filter_sublist
def jd (S:LN):LN:=eN (λn:Nat=>[(n:Int)]) S
def Kf (S:LN):Hs S=(jd S).map λ(n:Nat)=>.int (n:Int):=by
 unfold Hs ri jd;rw[wA,uP];rfl
def oS {m:Nat}{S:LN}:m∈jd S↔m∈S:=(bH _ _).mem_iff
def PW (q:D)(x:Int×OI)(w:D):Prop:=∃a k d b,∃m:Nat,∃G,(k=("paper" : Str)∨k = "like")/\q=row a k (.int d::.str b::.int m::jD x::w::G)/\(w=.non∨∃s,w=.str s)
def Aa (r:D):Prop:=kindOf r=("paper" : Str)∨kindOf r = "like"->∃x w,PW r x w
inductive Pb (af:List D):Nat->Nat->Nat->Prop
 |here (n:Nat) (r:D) (x:Int×Option Int) (w:D) (h:af[n]? = some r) (p:PW r x w):Pb af 0 n n
 |copy (k n m e:Nat) (a d:Int) (b:Str) (h:af[n]? = some (row a ("copy" : Str) [.int d,.str b,.int m])) (p:Pb af k m e):Pb af (k+1) n e
def pend (af:LD):Nat->Nat->Nat
 |0,n=>n
 |k+1,n=>match af[n]? with
  |some r=>if kindOf r = "copy" then pend af k (kj 2 r).toNat else n
  |none=>n
def PW.nocopy (p:PW r x w):¬kindOf r = "copy":=by
 obtain⟨a,k,d,b,m,G,hk,rfl,_⟩:=p;have:∀k:Str,k = "paper" ∨ k = "like"->¬k = "copy":=by rintro k (rfl|rfl)<;>decide +kernel
 exact this k hk
def Pb.to (p:Pb af k n e):∃r x w,af[e]? = some r/\PW r x w:=by
 induction p with
 |here n r x w h p=>exact⟨r,x,w,h,p⟩
 |copy k n m e a d b h p G=>exact G
def Pb.pend (p:Pb af k n e):∀f,k<=f->pend af f n=e:=by
 induction p with
 |here n r x w h p=>
  intro f _;cases f with
  |zero=>rfl
  |succ f=>unfold Lw.pend;rw[h];exact if_neg p.nocopy
 |copy k n m e a d b h p G=>
  intro f hf;obtain⟨f,rfl⟩:∃j,f=j+1:=⟨f - 1,by omega⟩;unfold Lw.pend;rw[h];exact(if_pos rfl).trans (G f (by omega))
def SI (af:LD)(ae:Int)(S:LN):Prop:=∀n∈S,∃r,af[n]? = some r/\br r<=ae/\kindOf r∈cw/\(kindOf r∈cX->∃k e,k<=S.length/\Pb af k n e)
section
variable {af:LD}(g:∀r∈af,ce r) (gw:∀r∈af,Aa r) (ae:Int)
include g gw
theorem Kg {S:LN}(s:SI af ae S){x:D×Nat}(hx:af[x.2]? = some x.1)(hk:br x.1<=ae)(hb:kindOf x.1∈cw):SI af ae (gS S (x.2,pV af ae x)):=by
 unfold gS;split
 ·rename_i hs;intro n hn;rcases mem_append.mp hn with hn|hn
  ·obtain⟨r,h1,h2,h3,h4⟩:=s n hn;exact⟨r,h1,h2,h3,λhp=>by obtain⟨k,e,h5,G⟩:=h4 hp;exact⟨k,e,by rw[uZ];omega,G⟩⟩
  ·cases uT hn
   refine⟨x.1,hx,hk,hb,λhp=>?_⟩;by_cases M:kindOf x.1 = "copy"
   ·obtain⟨a,d,b,m,er⟩:=tI (g _ (vL hx)) M;have hm:kj 2 x.1=m:=by rw[er];rfl
    unfold pV tK at hs;rw[if_pos M,hm,toNat_natCast]at hs;cases hv:tH af ae x.1 x.2 m with
    |false=>rw[hv]at hs;cases hs
    |true=>
     rw[hv,if_pos rfl]at hs;have O:m∈S:=by
      have T:(S.any λn=>decide ((n:Int)=(m:Int)))=true:=by simpa [lX]using hs
      rw[Dg]at T;exact PN T
     obtain⟨q,h1,h2,h3,h4⟩:=s m O;unfold tH at hv;rw[h1]at hv;obtain⟨k,e,h5,G⟩:=h4 (by
      have:=(vC _ _ ▸ hv).1;exact PN (vC _ _ ▸ this).2)
     exact⟨k+1,e,by rw[uZ,length_singleton];omega,.copy k _ m e a d b (by rw[hx,←er]) G⟩
   ·obtain⟨y,w,p⟩:=gw _ (vL hx) (by
     have:∀k∈cX,k ≠ "copy"->k = "paper" ∨ k = "like":=by decide +kernel
     exact this _ hp M)
    exact⟨0,x.2,uN _,.here _ _ _ _ hx p⟩
 ·exact s
theorem Dh:∀(l:KL)(S:LN),(∀x∈l,af[x.2]? = some x.1/\br x.1<=ae/\kindOf x.1∈cw)->SI af ae S->SI af ae ((l.map λx=>(x.2,pV af ae x)).foldl gS S)
 |[],_,_,s=>s
 |x::l,S,h,s=>by
  obtain⟨h1,h2,h3⟩:=h x (mX ..);exact Dh l _ (λy hy=>h y (mZ _ hy)) (Kg g gw ae s h1 h2 h3)
theorem Ab (day:Int):SI af ae (gD af ae day):=by
 refine Dh g gw ae _ [] (λx hx=>?_) (λn hn=>nomatch hn);obtain⟨h1,h2⟩:=vN hx;have h3:x∈av af ae:=(vN ((bH _ _).mem_iff.mp h1)).1;exact⟨bI h3,PN (vN h3).2,PN (vC _ _ ▸ h2).1⟩
end
def Pb.at_ (p:Pb af k n e):∃r,af[n]? = some r:=by
 cases p with
 |here n r x w h p=>exact⟨_,h⟩
 |copy k n m e a d b h p=>exact⟨_,h⟩
def PW.word (p:PW r x w):a9 [r]=sS (kindOf r):=by
 obtain⟨a,k,d,b,m,G,hk,rfl,_⟩:=p;exact cn _ _ _
def PW.str (p:PW r x w):au [r,.str "stretch"]=some (jD x,false):=by
 obtain⟨a,k,d,b,m,G,hk,rfl,_⟩:=p;exact bA (i:=3) (by rcases hk with rfl|rfl<;>exact cC) rfl
def PW.whom (p:PW r x w):au [r,.str "whom"]=some (w,false):=by
 obtain⟨a,k,d,b,m,G,hk,rfl,_⟩:=p;exact bA (i:=4) (by rcases hk with rfl|rfl<;>exact cC) rfl
def PW.box (p:PW r x w):Fm r=false:=by
 obtain⟨a,k,d,b,m,G,hk,rfl,_⟩:=p;rfl
def PW.st (p:PW r x w):fN r=x:=by
 obtain⟨a,k,d,b,m,G,hk,rfl,_⟩:=p;unfold fN;have:∀k:Str,k = "paper" ∨ k = "like"->¬k = "leave":=by rintro k (rfl|rfl)<;>decide +kernel
 rw[fg,if_neg (this k hk)];exact qx rfl
noncomputable abbrev bE (af:LD)(n0:Nat)(r:D):DL.Env:=[sT af,sI n0,some (r,false)]
section
variable {af:LD}(g:∀r∈af,ce r)
include g
theorem Nf {k n e:Nat}(p:Pb af k n e)(n0:Nat):∀(r:D)(fuel:Nat),af[n]? = some r->k<fuel->∃q,af[e]? = some q/\cO (aT (f2 dj (fA a9 (fV 2 aj)) (fS "copy"))) gY fuel (bE af n0 r)=some (.nx (bE af n0 q)):=by
 induction p with
 |here n q x w h p=>
  intro r fuel G hf;obtain⟨fuel,rfl⟩:∃j,fuel=j+1:=⟨fuel - 1,by omega⟩;cases h.symm.trans G
  refine⟨q,h,?_⟩;rw[cO,ci (a:=kindOf q) (bb:=false) (x:=false) (aN [q] rfl p.word) (PK p.nocopy)]
 |copy k n m e a d b h p O=>
  intro r fuel G hf;obtain⟨fuel,rfl⟩:∃j,fuel=j+1:=⟨fuel - 1,by omega⟩;cases h.symm.trans G
  obtain⟨M,h2⟩:=p.at_;obtain⟨q,h3,h4⟩:=O M fuel h2 (by omega);refine⟨q,h3,?_⟩;have T:f2 bK (am 0) (fA au (fV 2 (ag (fS "of") aj))) (bE af n0 (row a ("copy" : Str) [.int d,.str b,.int m]))=some (M,false):=bX (.tup af) (.int m) rfl (aN [row a ("copy" : Str) [.int d,.str b,.int m],.str "of"] rfl (bA (i:=2) cC rfl)) (by simp[bT h2]);have U:gY (bE af n0 (row a ("copy" : Str) [.int d,.str b,.int m]))=some (.nx (bE af n0 M)):=kP T (g _ (vL h2)).flat;rw[cO,ci (a:="copy") (bb:=false) (x:=true) (aN [row a ("copy" : Str) [.int d,.str b,.int m]] rfl (cn _ _ _)) (Aq rfl)];dsimp only;rw[U];exact h4
theorem Ez {k n e:Nat}(p:Pb af k n e)(hk:k<=60):∃q x w,af[e]? = some q/\PW q x w/\dh [.tup af,.int n]=some (q,false):=by
 obtain⟨r,G⟩:=p.at_;obtain⟨q,hq,O⟩:=Nf g p n r 1000 G (by omega);obtain⟨T,x,w,h,M⟩:=p.to;cases h.symm.trans hq
 exact⟨q,x,w,hq,M,aw rfl (jC r (bX (.tup af) (.int n) rfl rfl (by simp[bT G])) (g _ (vL G)).flat (dP O (lB rfl M.box)))⟩
end
def Kh (af:LD)(n:Nat):Bool:=match af[n]? with
 |some r=>decide (kindOf r∈cX)
 |none=>false
def QB (af:LD)(n:Nat):Int×OI:=fN (af.getD (pend af 60 n) .non)
def ia (af:LD)(ae day:Int):LN:=((jd (gD af ae day)).filter (Kh af)).filter λn=>wz day (QB af n)
def tL (n:Nat)(S:LN):df (.int n) (.lst (S.map λ(m:Nat)=>.int (m:Int)))=sO (!decide (n∈S)):=by
 have G:(S.map λ(n:Nat)=>D.int (n:Int)).all fT=true:=by
  rw[all_eq_true];intro d hd;obtain⟨m,_,rfl⟩:=vO hd;rfl
 simp only[df,gM,vJ];rw[if_pos ⟨rfl,G⟩,Hr,Dg]
section
variable {af:LD}(g:∀r∈af,ce r) (gw:∀r∈af,Aa r) (hl:af.length<=30) (ae:Int) (hn:((bV (av af ae)).map (aV 0)).Nodup) (ho:(dn (av af ae)).length<=60)
include g gw hl
theorem Ac {day:Int}{n:Nat}(h:n∈gD af ae day)(hp:Kh af n=true):∃q x w e k,k<=60/\Pb af k n e/\af[e]? = some q/\PW q x w/\dh [.tup af,.int n]=some (q,false)/\QB af n=x:=by
 obtain⟨r,h1,h2,h3,h4⟩:=Ab g gw ae day n h;unfold Kh at hp;rw[h1]at hp;obtain⟨k,e,h5,G⟩:=h4 (PN hp);have M:=lI hl ae day;obtain⟨q,x,w,hq,O,T⟩:=Ez g G (vR h5 M);refine⟨q,x,w,e,k,vR h5 M,G,hq,O,T,?_⟩;unfold QB;rw[G.pend 60 (vR h5 M),vF,hq];exact O.st
include hn ho
theorem tM (day:Int):gy [.tup af,.int ae,.int day]=lT ((ia af ae day).map λ(n:Nat)=>.int (n:Int)):=by
 have G:=lI hl ae day;have hs:(jd (gD af ae day)).length<=60:=by unfold jd;rw[(bH _ _).length_eq];exact G
 have h1:=fW (fi:=bM (fA iL (fV 0 (fV 1 (fV 2 aj))))) (nT:=1) (cap:=[0,1]) (tg:=cU 0) (c:=aT (fA cB (fV 1 (fV 2 (fV 0 aj))))) (fe:=am 0)
  (ρ:=[sT af,sI ae,sI day,none]) (jd (gD af ae day)) (λ(n:Nat)=>.int (n:Int)) (Kh af) (λ(n:Nat)=>.int (n:Int))
  (by show(fA iL _ _).bind _=_;rw[aN [.tup af,.int ae,.int day] rfl (zZ g hl ae hn ho day),Kf];rfl) (by omega) λx hx=>by
   obtain⟨r,h1,h2,h3,h4⟩:=Ab g gw ae day x (oS.mp hx);have:=oe h1 (g _ (vL h1)) ae;rw[Aq h2,Bool.true_and]at this;have e:Kh af x=decide (kindOf r∈cX):=by unfold Kh;rw[h1]
   rw[←e]at this;exact⟨_,rfl,dD (aN [.tup af,.int ae,.int x] rfl this),λ_=>⟨false,rfl⟩⟩
 have M:bD (((jd (gD af ae day)).filter (Kh af)).map λ(n:Nat)=>D.int (n:Int))=true:=cf λd hd=>by obtain⟨x,_,rfl⟩:=vO hd;rfl
 refine aw rfl (cG h1 M (ay ?_));refine fW (fi:=bM (am 3)) (nT:=1) (cap:=[2,0]) (tg:=cU 0) (c:=aT (fA gn (fV 1 (ag (fA au (ag (fA dh (fV 2 (fV 0 aj))) (ag (fS "stretch") aj))) aj)))) (fe:=am 0)
  (ρ:=[sT af,sI ae,sI day,lT (((jd (gD af ae day)).filter (Kh af)).map λ(n:Nat)=>.int (n:Int))]) ((jd (gD af ae day)).filter (Kh af)) (λ(n:Nat)=>.int (n:Int)) (λn=>wz day (QB af n)) (λ(n:Nat)=>.int (n:Int)) (by simp) (vR (vM _ _) (by omega)) λn hn=>?_
 obtain⟨h2,h3⟩:=vN hn;obtain⟨q,x,w,e,k,hk,U,hq,O,T,e2⟩:=Ac g gw hl ae (oS.mp h2) h3;refine⟨[sI n,sI day,sT af],rfl,dD (aN [.int day,jD x] (bY rfl (bY (aN [q,.str "stretch"] (bY (aN [.tup af,.int n] rfl T) rfl) O.str) rfl)) ?_),λ_=>⟨false,rfl⟩⟩;rw[e2];exact xT _ _ _
end
theorem Hx:∀(a b:LN),a.Pairwise (· < ·)->b.Pairwise (· < ·)->(∀n,n∈a↔n∈b)->a=b
 |[],[],_,_,_=>rfl
 |[],y::b,_,_,h=>absurd ((h y).mpr (mX ..)) (by simp)
 |x::a,[],_,_,h=>absurd ((h x).mp (mX ..)) (by simp)
 |x::a,y::b,ha,hb,h=>by
  have ha:=pairwise_cons.mp ha;have hb:=pairwise_cons.mp hb;have e:x=y:=by
   rcases vP ((h x).mp (mX ..))with h1|h1
   ·exact h1
   rcases vP ((h y).mpr (mX ..))with h2|h2
   ·exact h2.symm
   have:=hb.1 x h1;have:=ha.1 y h2;omega
  subst e;rw[Hx a b ha.2 hb.2 λn=>⟨λhn=>?_,λhn=>?_⟩]
  ·rcases vP ((h n).mp (mZ _ hn))with h1|h1
   ·have:=ha.1 n hn;omega
   ·exact h1
  ·rcases vP ((h n).mpr (mZ _ hn))with h1|h1
   ·have:=hb.1 n hn;omega
   ·exact h1
theorem Di:∀(q:List (Nat×List Bs))(S:LN),S.Nodup->(q.map (·.1)).Nodup->(∀n∈S,n∉q.map (·.1))->(q.foldl gS S).Nodup
 |[],_,h,_,_=>h
 |p::q,S,h,hq,hd=>by
  rw[uY,nodup_cons]at hq;refine Di q _ ?_ hq.2 λn hn=>?_
  ·unfold gS;split
   ·refine nodup_append.mpr ⟨h,by simp,λa ha b hb e=>?_⟩;cases uT hb
    exact hd a ha (by rw[e];simp)
   ·exact h
  ·rcases zX hn with h1|h1
   ·exact λz=>hd n h1 (mZ _ z)
   ·rw[h1];exact hq.1
def Hy (af:LD)(ae day:Int):(gD af ae day).Nodup:=by
 refine Di _ [] nodup_nil ?_ (λn hn=>nomatch hn);rw[uP];exact List.Nodup.sublist (List.Sublist.map _ filter_sublist) (lH (eI af ae))
def Hz {S:LN}(h:S.Nodup):(jd S).Pairwise (· < ·):=by
 have h1:=ge (λn:Nat=>[(n:Int)]) S;have h2:(jd S).Nodup:=(bH _ _).nodup_iff.mpr h;refine(h1.and h2).imp λ{a b} hab=>?_;have h3:¬[(b:Int)]<[(a:Int)]:=hab.1;have:¬b<a:=λz=>h3 (cons_lt_cons_iff.mpr (.inl (by omega)));have:=hab.2;omega
def B1 {af:LD}(ae day:Int)(h:∀n∈ia af ae day,n<af.length):(List.range af.length).filter (λn=>decide (n∈ia af ae day))=ia af ae day:=by
 refine Hx _ _ (List.pairwise_lt_range.filter _) ?_ λn=>?_
 ·unfold ia;exact((Hz (Hy af ae day)).filter _).filter _
 ·rw[mem_filter,mem_range];exact⟨λz=>PN z.2,λz=>⟨h n z,Aq z⟩⟩
def Ki {af:LD}{n i j:Nat}{a:Int}{k:Str}{ax:LD}{v:D}(h:af[n]? = some (row a k ax))(hv:(D.str k::ax)[j]? = some v){ρ:DL.Env}(h0:ρ[0]? = some (sL af))(hi:ρ[i]? = some (sI n)):f2 bK (f2 bK (f2 bK (am 0) (am i)) (fI 1)) (fI (j:Int)) ρ=some (v,false) :=
 bX (.tup (.str k::ax)) (.int j) (bX (row a k ax) (.int 1) (bX (.lst af) (.int n) (by simp[h0]) (by simp[hi]) (by simp[bT h])) rfl (by simp[row,GH])) rfl (by simp[bT hv])
noncomputable abbrev dE (af:LD)(n0 n:Nat):DL.Env:=[sL af,sI n0,sI n]
def HA {af:LD}{k n e:Nat}(p:Pb af k n e)(n0:Nat):∀fuel:Nat,k<fuel->cO (aT (f2 dj (f2 bK (f2 bK (f2 bK (am 0) (am 2)) (fI 1)) (fI 0)) (fS "copy"))) oH fuel (dE af n0 n)=some (.nx (dE af n0 e)):=by
 induction p with
 |here n q x w h p=>
  intro fuel hf;obtain⟨fuel,rfl⟩:∃j,fuel=j+1:=⟨fuel - 1,by omega⟩;have hc:=p.nocopy;obtain⟨a,k,d,b,m,O,hk,rfl,_⟩:=p;rw[cO,ci (a:=k) (bb:=false) (x:=false) (ρ:=dE af n0 n) (f:=f2 bK (f2 bK (f2 bK (am 0) (am 2)) (fI 1)) (fI 0)) (Ki (j:=0) h rfl rfl rfl) (PK hc)]
 |copy k n m e a d b h p G=>
  intro fuel hf;obtain⟨fuel,rfl⟩:∃j,fuel=j+1:=⟨fuel - 1,by omega⟩;have M:oH (dE af n0 n)=some (.nx (dE af n0 m)):=kP (Ki (i:=2) (j:=3) h rfl rfl rfl) rfl;rw[cO,ci (a:="copy") (bb:=false) (x:=true) (ρ:=dE af n0 n) (f:=f2 bK (f2 bK (f2 bK (am 0) (am 2)) (fI 1)) (fI 0)) (Ki (j:=0) h rfl rfl rfl) (Aq rfl)];dsimp only;rw[M];exact G fuel (by omega)
section
variable {af:LD}(g:∀r∈af,ce r) (gw:∀r∈af,Aa r) (hl:af.length<=30) (ae:Int) (hn:((bV (av af ae)).map (aV 0)).Nodup) (ho:(dn (av af ae)).length<=60)
include g gw hl hn ho
theorem HB (day:Int)(n:Nat):nJ [.tup af,.int ae,.int day,.int n,.non]=sO (decide (n∈ia af ae day)):=by
 have G:aT (f2 df (am 3) (fA gy (fV 0 (fV 1 (fV 2 aj))))) [sT af,sI ae,sI day,sI n,sF .non]=some (!decide (n∈ia af ae day)):=dz (b:=false) (cK (x:=.int n) (b1:=false) (b2:=true) rfl (aN [.tup af,.int ae,.int day] rfl (tM g gw hl ae hn ho day)) (tL n _));cases hv:decide (n∈ia af ae day) with
 |false=>exact aw rfl (bF (G.trans (by rw[hv];rfl)) (ay rfl))
 |true=>exact aw rfl (aK (G.trans (by rw[hv];rfl)) (ay ((no (p:=true) (q:=true) (b1:=false) (bX .non .non rfl rfl rfl) λz=>by cases z).trans rfl)))
omit hn ho in
theorem E1 {day:Int}{n:Nat}(h:n∈ia af ae day):n<af.length/\∃w,(w=.non∨∃s,w=.str s)/\gz [.tup af,.int n]=some (w,false)/\nM [.lst af,.int n]=some (w,false):=by
 obtain⟨h1,h2⟩:=vN (vN h).1;obtain⟨q,x,w,e,k,hk,M,hq,O,T,e2⟩:=Ac g gw hl ae (oS.mp h1) h2;have G:=HA M n 1000 (by omega);obtain⟨r,U⟩:=M.at_;have ew:gz [.tup af,.int n]=some (w,false):=aw rfl (ay (aN [q,.str "whom"] (bY (aN [.tup af,.int n] rfl T) rfl) O.whom));obtain⟨a2,k2,d2,b2,m2,Yq,Yr,rfl,hw⟩:=O;exact⟨(vV U).1,w,hw,ew,aw rfl (jC (.int n) rfl rfl (dP G (ay (Ki (i:=2) (j:=5) hq rfl rfl rfl))))⟩
end
def RI (l:LD)(a:Nat):iR l none (some (a:Int))=l.take a:=by
 unfold iR;rw[kQ (by omega)];show(l.drop 0).take (min (a:Int).toNat l.length - 0)=_;rw[List.drop_zero,Nat.sub_zero,toNat_natCast,←List.take_eq_take_min]
def RJ (l:LD)(a:Nat):iR l (some (a:Int)) none=l.drop a:=by
 unfold iR;rw[kQ (by omega),toNat_natCast];show(l.drop (min a l.length)).take (l.length - min a l.length)=_;rw[List.take_of_length_le (by rw[length_drop];omega)];by_cases h:a<=l.length
 ·rw[Nat.min_eq_left h]
 ·rw[Nat.min_eq_right (by omega),List.drop_length,drop_eq_nil_of_le (by omega)]
def B2 (ps:LS)(hp:ps.length<=900)(a:Nat)(z:Str):oG [.tup (ps.map .str),.int (a:Int),.str z]=some (.tup ((ps.take a++z::ps.drop (a+1)).map .str),false):=by
 have G:tT (am 0) fF (dI (am 1)) [some (.tup (ps.map .str),false),some (.int (a:Int),false),some (.str z,false)]=some (.tup ((ps.take a).map .str),false):=by
  show some (D.tup (iR (ps.map .str) none (some (a:Int))),false)=_;rw[RI,map_take]
 have e2:tT (am 0) (dI (f2 fw (am 1) (fI 1))) fF [some (.tup (ps.map .str),false),some (.int (a:Int),false),some (.str z,false)]=some (.tup ((ps.drop (a+1)).map .str),false):=by
  show some (D.tup (iR (ps.map .str) (some ((a+1:Nat):Int)) none),false)=_;rw[RJ,map_drop]
 refine aw rfl (ay (cK (x:=.tup ((ps.take a++[z]).map .str)) (y:=.tup ((ps.drop (a+1)).map .str)) (b1:=false) (b2:=false) (cK (x:=.tup ((ps.take a).map .str)) (y:=.tup [.str z]) (b1:=false) (b2:=false) G (bG (ds:=[.str z]) rfl (cz _ (by simp))) ?_) e2 ?_))
 ·show(if((ps.take a).map D.str).length+[D.str z].length<=sizeLine then some (D.tup ((ps.take a).map D.str++[.str z]),false)else none)=_;rw[if_pos (eA (by simp;omega)),uW];rfl
 ·show(if((ps.take a++[z]).map D.str).length+((ps.drop (a+1)).map D.str).length<=sizeLine then some (D.tup ((ps.take a++[z]).map D.str++(ps.drop (a+1)).map D.str),false)else none)=_;rw[if_pos (eA (by simp;omega)),←uW,append_assoc];rfl
def Kj (l:LD)(x:D):mD (l++[x]) (-1)=some x:=by
 unfold mD EW;rw[uZ,length_singleton,if_neg (by decide),if_pos (by omega),vJ,show(-1+((l.length+1:Nat):Int)).toNat=l.length by omega];simp
inductive Rq (j:Nat):D->Prop
 |non (r:D) (h:kindOf r∉cX):Rq j r
 |paper (h:Int) (ax:List D) (ps:List Str) (e:ax[5]? = some (.tup (ps.map .str))) (l:ps.length<=3):Rq j (row h "paper" ax)
 |like (h:Int) (ax:List D) (m c:Nat) (e:ax[5]? = some (.int m)) (hm:m<j) (e2:ax[6]? = some (.tup [.tup [.int (c:Int),.str "d"]])):Rq j (row h "like" ax)
 |copy (h:Int) (ax:List D) (m:Nat) (e:ax[2]? = some (.int m)) (hm:m<j):Rq j (row h "copy" ax)
def Gv (v:D):Prop:=bC v=true/\aH 20 v=true/\∃ds,v=.tup ds
noncomputable abbrev pE (af G:LD)(q:LS)(M O T:OB):DL.Env:=[sT af,sL G,sT (q.map .str),M,O,T]
def B3 (n:Nat)(zs:LS):(zs.map D.str).all (aH n)=true:=by
 induction zs with
 |nil=>rfl
 |cons a l G=>simp
def HC (z:Str)(n:Nat):Gv (.tup [.str z,.int (n:Int)]):=⟨rfl,by simp[aH],_,rfl⟩
section
variable {af:LD}(hq:∀j r,af[j]? = some r->Rq j r)
include hq
theorem Ng (g:∀r∈af,ce r)(G:LD)(i:Nat)(hi:i<af.length)(q:LS)(hl:q.length<=500)(M O:OB):
  (∃U u4 u5,U.length<=q.length+1/\(bq (pE af G q (sI i) M O)=some (.nx (pE af G U (sI i) u4 u5))∨bq (pE af G q (sI i) M O)=some (.ct (pE af G U (sI i) u4 u5))))∨∃v,Gv v/\bq (pE af G q (sI i) M O)=some (.rt v false):=by
 obtain⟨r,hr⟩:∃r,af[i]? = some r:=⟨_,vU hi⟩;have ei:∀ {ρ:DL.Env},ρ[0]? = some (sT af)->ρ[3]? = some (sI i)->f2 bK (am 0) (am 3) ρ=some (r,false):=λ{ρ} h0 h3=>bX (.tup af) (.int i) (by simp[h0]) (by simp[h3]) (by simp[bT hr]);have skip:∀k:Str,a9 [r]=sS k->decide (k = "like")=false->(∃U u4 u5,U.length<=q.length+1/\(bq (pE af G q (sI i) M O)=some (.nx (pE af G U (sI i) u4 u5))∨bq (pE af G q (sI i) M O)=some (.ct (pE af G U (sI i) u4 u5)))):=λk hw hk=>⟨q,M,O,by omega,.inr (by
  have t:aT (f2 xa (fA a9 (ag (f2 bK (am 0) (am 3)) aj)) (fS "like")) (pE af G q (sI i) M O)=some true:=(Bz (a:=k) (bb:=false) (aN [r] (bY (ei rfl rfl) rfl) hw)).trans (by rw[hk];rfl);show a8 (cN _ Cc aP) _ _=_;unfold a8 cN;rw[t];rfl)⟩
 have hR:=hq i r hr;cases hR with
 |non r h=>
  exact .inl (skip (kindOf r) (iN (g r (vL hr)).c) (PK λz=>h (by rw[z];decide +kernel)))
 |paper h ax ps e l=>exact .inl (skip "paper" (cn _ _ _) (by decide +kernel))
 |copy h ax m e hm=>exact .inl (skip "copy" (cn _ _ _) (by decide +kernel))
 |like h ax m c e hm e2=>
  have t:aT (f2 xa (fA a9 (ag (f2 bK (am 0) (am 3)) aj)) (fS "like")) (pE af G q (sI i) M O)=some false:=(Bz (a:="like") (bb:=false) (aN [row h "like" ax] (bY (ei rfl rfl) rfl) (cn _ _ _))).trans (by rw[Aq rfl];rfl);have XH:bM (fA au (ag (f2 bK (am 0) (am 3)) (ag (fS "changes") aj))) (gU (pE af G q (sI i) M O))=some [.tup [.int (c:Int),.str "d"]]:=by
   have e3:fA au (ag (f2 bK (am 0) (am 3)) (ag (fS "changes") aj)) (gU (pE af G q (sI i) M O))=some (.tup [.tup [.int (c:Int),.str "d"]],false):=aN [row h "like" ax,.str "changes"] (bY (ei rfl rfl) rfl) (bA (i:=6) cC e2);unfold bM;rw[e3];rfl
  have t2:aT (f2 EC (am 4) (fA dR (fV 2 aj))) (pE af G q (sI i) (sI (c:Int)) (sS "d"))=some (decide ((q.length:Int)<c)):=dD (bX (.int (c:Int)) (.int (q.length:Int)) rfl (aN [.tup (q.map .str)] rfl (by simp)) rfl);have T:bq (pE af G q (sI i) M O)=gV (DG [4,5]) cI [.tup [.int (c:Int),.str "d"]] (pE af G q (sI i) M O):=by
   refine aK t ?_;show(bM _ (gU (pE af G q (sI i) M O))).bind _=_;rw[XH];rfl
  by_cases hc:(q.length:Int)<c
  ·rw[Aq hc]at t2;have b1:cI (pE af G q (sI i) (sI (c:Int)) (sS "d"))=some (.rt (.tup [.str "beyond",.int (i:Int)]) false):=bF t2 (ay (aN [.str "beyond",.int (i:Int)] rfl (cz _ (by simp))));refine .inr ⟨_,HC "beyond" i,?_⟩;rw[T,lx];show(match cI (pE af G q (sI i) (sI (c:Int)) (sS "d")) with|some (.nx ρ')=>_|some (.ct ρ')=>_|some (.bk ρ')=>_|r=>r)=_;rw[b1]
  ·rw[PK hc]at t2;have b1:cI (pE af G q (sI i) (sI (c:Int)) (sS "d"))=some (.nx (pE af G (q.take c++("d" : Str)::q.drop (c+1)) (sI i) (sI (c:Int)) (sS "d"))):=aK t2 (kP (aN [.tup (q.map .str),.int (c:Int),.str "d"] rfl (B2 q (by omega) c "d")) (show bD _=true from cL _));refine .inl ⟨q.take c++("d" : Str)::q.drop (c+1),sI (c:Int),sS "d",by rw[uZ,length_take,vE,length_drop];omega,.inl ?_⟩;rw[T,lx];show(match cI (pE af G q (sI i) (sI (c:Int)) (sS "d")) with|some (.nx ρ')=>_|some (.ct ρ')=>_|some (.bk ρ')=>_|r=>r)=_;rw[b1];exact qH ..
theorem B4 (g:∀r∈af,ce r)(G:LD):∀(l:LN)(q:LS)(T M O:OB),(∀i∈l,i<af.length)->q.length+l.length<=500 ->
  (∃U u3 u4 u5,U.length<=500/\gV (cU 3) bq (l.map λ(i:Nat)=>.int (i:Int)) (pE af G q T M O)=some (.nx (pE af G U u3 u4 u5)))∨∃v,Gv v/\gV (cU 3) bq (l.map λ(i:Nat)=>.int (i:Int)) (pE af G q T M O)=some (.rt v false)
 |[],q,T,M,O,_,hl=>.inl ⟨q,T,M,O,by rw[length_nil]at hl;omega,qH ..⟩
 |i::l,q,T,M,O,hi,hl=>by
  rw[vE]at hl;have ef:gV (cU 3) bq ((i::l).map λ(i:Nat)=>.int (i:Int)) (pE af G q T M O)=match bq (pE af G q (sI i) M O) with
    |some (.nx ρ')=>gV (cU 3) bq (l.map λ(i:Nat)=>.int (i:Int)) ρ'
    |some (.ct ρ')=>gV (cU 3) bq (l.map λ(i:Nat)=>.int (i:Int)) ρ'
    |some (.bk ρ')=>some (.nx ρ')
    |r=>r:=by rw[uY,lx];rfl
  rw[ef];rcases Ng hq g G i (hi i (mX ..)) q (by omega) M O with⟨U,u4,u5,Ys,h|h⟩|⟨v,gv,h⟩
  ·rw[h];exact B4 g G l U _ _ _ (λj hj=>hi j (mZ _ hj)) (by omega)
  ·rw[h];exact B4 g G l U _ _ _ (λj hj=>hi j (mZ _ hj)) (by omega)
  ·rw[h];exact .inr ⟨v,gv,rfl⟩
theorem Kk (g:∀r∈af,ce r)(init:LN)(m:Nat)(hp:∀i∈init++[m],i<af.length)(hl:init.length<=400){h:Int}{ax:LD}{ps:LS}(hm:af[m]? = some (row h "paper" ax))(T:ax[5]? = some (.tup (ps.map .str)))(h3:ps.length<=3):∃v,Gv v/\iI [.tup af,.lst ((init++[m]).map λ(i:Nat)=>.int (i:Int))]=some (v,false):=by
 obtain⟨G,M⟩:∃G:LD,((init++[m]).map λ(i:Nat)=>D.int (i:Int))=G:=⟨_,rfl⟩;have O:fA au (ag (f2 bK (am 0) (f2 bK (am 1) (f1 y8 (fI 1)))) (ag (fS "pieces") aj)) [sT af,sL G,none,none,none,none]=sT (ps.map .str):=by
  refine aN [row h "paper" ax,.str "pieces"] (bY (bX (.tup af) (.int (m:Int)) rfl (bX (.lst G) (.int (-1)) rfl rfl ?_) (by simp[bT hm])) rfl) (bA (i:=5) cC T);show(mD G (-1)).map _=_;rw[←M,uW,show List.map (λ(n:Nat)=>D.int (n:Int)) [m]=[D.int (m:Int)]from rfl,Kj];rfl
 have ei:JD (am 1) (gU (pE af G ps none none none))=some ((init++[m]).reverse.map λ(i:Nat)=>.int (i:Int)):=by
  show some G.reverse=_;rw[←M,List.map_reverse]
 rw[M];rcases B4 hq g G (init++[m]).reverse ps none none none (λi hi=>hp i (List.mem_reverse.mp hi)) (by rw[List.length_reverse,uZ,length_singleton];omega)with⟨q',u3,u4,u5,Td,e⟩|⟨v,gv,e⟩
 ·exact⟨.tup [.str "words",.tup (q'.map .str)],⟨by simp[cL],by simp only[aH,all_cons,all_nil,B3,Bool.and_true],_,rfl⟩,aw rfl (jC (.tup (ps.map .str)) O (by simp[cL]) (dP (gI ei e) (ay (aN [.str "words",.tup (q'.map .str)] rfl (cz _ (by simp))))))⟩
 ·refine⟨v,gv,aw rfl (jC (.tup (ps.map .str)) O (by simp[cL]) (MO ?_))⟩;show(JD (am 1) (gU (pE af G ps none none none))).bind _=_;rw[ei];exact e
noncomputable abbrev wE (af:LD)(ae:Int)(n0:Nat)(G:LN)(m:Nat):DL.Env:=[sT af,sI ae,sI n0,lT (G.map λ(i:Nat)=>.int (i:Int)),sI m]
theorem Nh (g:∀r∈af,ce r)(hl:af.length<=30)(ae:Int)(n0:Nat):∀(m:Nat)(G:LN)(fuel:Nat),m<af.length->(∀i∈G,m<i/\i<af.length)->G.length+m<=60->m<fuel->∃v,Gv v/\cO (aT (f2 df (am 4) (am 3))) j9 fuel (wE af ae n0 G m)=some (.rt v false):=by
 intro m;induction m using Nat.strongRecOn with
 |_ m ih=>
  intro G fuel hm hp Ii hf;obtain⟨fuel,rfl⟩:∃j,fuel=j+1:=⟨fuel - 1,by omega⟩;obtain⟨r,U⟩:∃r,af[m]? = some r:=⟨_,vU hm⟩;have gr:=g r (vL U);have t0:aT (f2 df (am 4) (am 3)) (wE af ae n0 G m)=some true:=dD (bX (.int m) (.lst (G.map λ(i:Nat)=>.int (i:Int))) rfl rfl ((tL m G).trans (by rw[PK λz=>by have:=(hp m z).1;omega];rfl)));have ei:∀ {ρ:DL.Env},ρ[0]? = some (sT af)->ρ[4]? = some (sI m)->f2 bK (am 0) (am 4) ρ=some (r,false):=λ{ρ} h0 h3=>bX (.tup af) (.int m) (by simp[h0]) (by simp[h3]) (by simp[bT U]);have t1:bU (aT (fA cB (fV 0 (fV 1 (fV 4 aj))))) (wE af ae n0 G m)=some (!(decide (br r<=ae) && decide (kindOf r∈cX))):=bN (dD (aN [.tup af,.int ae,.int m] rfl (oe U gr ae)));have stop:∀v,Gv v->j9 (wE af ae n0 G m)=some (.rt v false)->∃v,Gv v/\cO (aT (f2 df (am 4) (am 3))) j9 (fuel+1) (wE af ae n0 G m)=some (.rt v false):=λv gv h=>⟨v,gv,by rw[cO,t0];dsimp only;rw[h]⟩;have go:∀O,O<m->j9 (wE af ae n0 G m)=some (.nx (wE af ae n0 (G++[m]) O))->∃v,Gv v/\cO (aT (f2 df (am 4) (am 3))) j9 (fuel+1) (wE af ae n0 G m)=some (.rt v false):=λO M h=>by
   obtain⟨v,gv,e⟩:=ih O M (G++[m]) fuel (by omega) (λi hi=>by
    rcases mem_append.mp hi with h1|h1
    ·have:=hp i h1;omega
    ·cases uT h1;exact⟨M,hm⟩) (by rw[uZ,length_singleton];omega) (by omega)
   exact⟨v,gv,by rw[cO,t0];dsimp only;rw[h];exact e⟩
  cases hv:(decide (br r<=ae) && decide (kindOf r∈cX)) with
  |false=>exact stop _ (HC "lacks" m) (bF (t1.trans (by rw[hv];rfl)) (ay (aN [.str "lacks",.int (m:Int)] rfl (cz _ (by simp)))))
  |true=>
   have hk:=PN (vC _ _ ▸ hv).2;have ha:∀ {T:FS}{res:Option Res},T (wE af ae n0 (G++[m]) m)=res->a8 (mL 3 (am 4)) T (wE af ae n0 G m)=res:=λ{T res} hT=>Ll (ds:=G.map λ(i:Nat)=>.int (i:Int)) (d:=.int (m:Int)) (b:=false) rfl rfl rfl (cR (by rw[vI];omega)) (by
    have e:(G.map λ(i:Nat)=>D.int (i:Int))++[.int (m:Int)]=(G++[m]).map λ(i:Nat)=>D.int (i:Int):=by rw[uW];rfl
    rw[e];exact hT)
   have hR:=hq m r U;cases hR with
   |non r h=>exact absurd hk h
   |paper h ax ps e l=>
    obtain⟨v,gv,ep⟩:=Kk hq g G m (λi hi=>by
     rcases mem_append.mp hi with h1|h1
     ·exact(hp i h1).2
     ·cases uT h1;exact hm) (by omega) U e l
    exact stop v gv (aK (t1.trans (by rw[hv];rfl)) (ha (bF (ci (a:="paper") (bb:=false) (aN [row h "paper" ax] (bY (ei rfl rfl) rfl) (cn _ _ _)) (Aq rfl)) (ay (aN [.tup af,.lst ((G++[m]).map λ(i:Nat)=>.int (i:Int))] rfl ep)))))
   |like h ax O c e M e2=>exact go O M (aK (t1.trans (by rw[hv];rfl)) (ha (aK (ci (a:="like") (bb:=false) (aN [row h "like" ax] (bY (ei rfl rfl) rfl) (cn _ _ _)) (PK (by decide +kernel))) (kP (aN [row h "like" ax,.str "of"] (bY (ei rfl rfl) rfl) (bA (i:=5) cC e)) rfl))))
   |copy h ax O e M=>exact go O M (aK (t1.trans (by rw[hv];rfl)) (ha (aK (ci (a:="copy") (bb:=false) (aN [row h "copy" ax] (bY (ei rfl rfl) rfl) (cn _ _ _)) (PK (by decide +kernel))) (kP (aN [row h "copy" ax,.str "of"] (bY (ei rfl rfl) rfl) (bA (i:=2) cC e)) rfl))))
theorem HD (g:∀r∈af,ce r)(hl:af.length<=30)(ae:Int){n:Nat}(hn:n<af.length):∃v,Gv v/\lE [.tup af,.int ae,.int n]=some (v,false):=by
 obtain⟨v,G,e⟩:=Nh hq g hl ae n n [] 1000 hn (by simp) (by rw[length_nil];omega) (by omega);exact⟨v,G,aw rfl (cG (ds:=[]) (aN [] rfl (gA _ (by simp))) rfl (jC (.int n) rfl rfl (MO e)))⟩
end
end Lw
namespace Lw
open PySem DL L2
def Pz (d:D)(r:LD):iR (d::r) (some 1) none=r:=by
 unfold iR;rw[kQ (v:=1) (by decide)];have:HT.dS (d::r).length (d::r).length none=(d::r).length:=rfl;rw[this];have:min (1:Int).toNat (d::r).length=1:=by simp
 rw[this];simp
def Ad (af:LD)(n:Nat):iR af none (some (n:Int))=af.take n:=by
 unfold iR;rw[HT.ET,HT.Ix];simp
def Dj {op:D->OB}{fa:FE}{ρ:DL.Env}{x:D}{b:Bool}{z:OB}(G:fa ρ=some (x,b))(e2:op x=z):f1 op fa ρ=z:=by unfold f1;rw[G];exact e2
def Ae (parts:LS)(ax:LD):jh (parts.map .str) ax=(parts.zip ax).map λx=>.tup [.str x.1,x.2]:=by
 induction parts generalizing ax with
 |nil=>rfl
 |cons a l G=>
  cases ax with
  |nil=>rfl
  |cons d r=>have:=G r;unfold jh at this ⊢;simp[this]
def HE {α:Type}(l:List α):yB [.lst (l.map λ_=>.bl true)]=some (.bl true,false):=by
 have:=rQ (λ_:α=>true) l;simp only[yB,this,map_some];congr 2;simp
noncomputable def fD (z:Str):Bool:=Fw (.str z) [.str "by",.str "person",.str "whom"]
noncomputable def there:D->Bool
 |.non=>false
 |_=>true
@[simp] def RK:there .non=false:=rfl
@[simp] def RL (z:Str):there (.str z)=true:=rfl
@[simp] def RM (z:Int):there (.int z)=true:=rfl
@[simp] def RN (z:LD):there (.tup z)=true:=rfl
def Af (d:D)(h:xi d=false):jI d .non=some (.bl (there d),false):=by
 cases d<;>simp[xg,there]at h ⊢
noncomputable def oi (l:List (Str×D)):LD:=(l.filter λx=>fD x.1 && there x.2).map (·.2)
noncomputable def P6:LS:=[("ann" : Str),"bob","cid","dan"]
noncomputable def off (k:Nat):Str:=if k=0 then "king" else "abbot"
def Kl:∀h:_root_.Fin 14,Pq (iF [.int (h.val:Int)]) (.bl true) false=true:=by decide +kernel
def Km {h:Int}(h0:0<=h)(h1:h<14):iF [.int h]=some (.bl true,false):=by
 obtain⟨n,rfl⟩:=Int.eq_ofNat_of_zero_le h0;exact rN (Kl ⟨n,by omega⟩)
structure DeedG (k:Nat)(h:Int)(kind:Str)(ax:List D):Prop where
 parts:∃(parts:List Str)(ss:List Str),mh bQ (.str kind)=some (.tup (parts.map .str),false)/\parts.length=ax.length/\(∀x∈parts.zip ax,ir [.str x.1,x.2]=some (.bl true,false))/\oi (parts.zip ax)=ss.map .str/\ss.length<=2/\∀s∈ss,s∈P6
 len:ax.length<=10
 flat:∀d∈ax,bC d=true/\xi d=false
 day:(kind=("root" : Str)/\(k=0∨k=2)/\∃r,ax=.str (off k)::r)∨(kind≠("root" : Str)/\(∃(day:Int)(r:List D),ax=.int day::r/\day<=h/\0<=day/\(kind=("chosen" : Str)->∃a b c s,r=[a,b,c,.int s]/\day<=s))/\mo bQ (.str kind) (.str "day")=some (.int 0,false))
def qd (k:Nat)(r:D):Prop:=∃h kind ax,r=row h kind ax/\0<=h/\h<14/\DeedG k h kind ax
def P0 (k q:Str):dj (.str k) (.str q)=some (.bl (decide (k=q)),false):=by simp
noncomputable def HF:D->D
 |.tup [_,.tup (.str _::.int d::_)]=>.int d
 |_=>.non
def Kn {k:Nat}{h:Int}{kind:Str}{ax:LD}(g:DeedG k h kind ax):aQ [row h kind ax]=some (HF (row h kind ax),false):=by
 rcases g.day with⟨e,_,r,rfl⟩|⟨e,⟨day,r,rfl,_⟩,hi⟩
 ·exact aw rfl (bF (dz (b:=false) (cK (x:=.str kind) (y:=.str "root") (b1:=false) (b2:=false) (bG (ds:=[row h kind (.str (off k)::r)]) rfl (cn _ _ _)) rfl (by rw[P0,Aq e]))) (ay rfl))
 ·exact aw rfl (aK (dz (b:=false) (cK (x:=.str kind) (y:=.str "root") (b1:=false) (b2:=false) (bG (ds:=[row h kind (.int day::r)]) rfl (cn _ _ _)) rfl (by rw[P0,PK e]))) (ay (bG (ds:=[row h kind (.int day::r),.str "day"]) rfl (bA (i:=0) hi rfl))))
def HG {k:Nat}{h:Int}{kind:Str}{ax:LD}(g:DeedG k h kind ax):oF [.tup (.str kind::ax)]=some (.bl true,false):=by
 obtain⟨parts,ss,hp,hl,ha,_⟩:=g.parts;have G:(bQ.lookup kind).isSome=true:=by
  simp only[mh]at hp;obtain⟨d,h1,_⟩:=oY hp;rw[h1];rfl
 have hsz:=g.len;have M:f2 bK (am 0) (fC (.int 0)) [some (.tup (.str kind::ax),false)]=some (.str kind,false):=by simp[Ig]
 have O:f1 (mh bQ) (f2 bK (am 0) (fC (.int 0))) [some (.tup (.str kind::ax),false)]=some (.tup (parts.map .str),false):=Dj (x:=.str kind) (b:=false) M hp;refine aw rfl (aK (ee (p:=false) (q:=false) (by simp) λ_=>ee (p:=false) (q:=false) (dz (b:=false) (by simp;omega)) λ_=>bN (p:=true) (dz (b:=false) (bG (ds:=[.str kind,.ty "str"]) (aS M rfl) (by simp)))) (aK (ee (p:=false) (q:=false) (dz (b:=false) (Dj (x:=.str kind) (b:=false) M ?_)) λ_=>dz (b:=false) (cK (x:=.int ((ax.length+1:Nat):Int)) (y:=.int (1+(parts.length:Int))) (b1:=false) (b2:=false) (by simp) (cK (x:=.int 1) (y:=.int parts.length) (b1:=false) (b2:=false) rfl (bG (ds:=[.tup (parts.map .str)]) (aS O rfl) (by simp)) (by simp)) ?_)) (ay (bG (ds:=[.lst ((parts.zip ax).map λ_=>.bl true)]) ?_ (HE _)))))
 ·simp only[qV,G];rfl
 ·simp;omega
 ·have:=px (fi:=FI (f1 (mh bQ) (f2 bK (am 0) (fC (.int 0)))) (tT (am 0) (dI (fC (.int 1))) fF)) (nT:=2) (cap:=[]) (tg:=DG [0,1]) (fe:=fA ir (ag (am 0) (ag (am 1) aj))) (ρ:=[some (.tup (.str kind::ax),false)]) (parts.zip ax) (λx=>.tup [.str x.1,x.2]) (λ_=>.bl true)
   (by
    show(f1 (mh bQ) _ _).bind _=_;rw[O];simp[Pz,Ae]) (by rw[length_zip];omega) λx hx=>by
    have T:=g.flat x.2 (of_mem_zip hx).2;exact⟨_,rfl,false,bG (ds:=[.str x.1,x.2]) (by simp[dq]) (ha x hx)⟩
  exact aS (b:=true) this rfl
def E2 (r:D):bC (HF r)=true:=by
 unfold HF;split<;>rfl
def B5 {k:Nat}{h:Int}{kind:Str}{ax:LD}(g:DeedG k h kind ax):kU [row h kind ax]=some (.bl true,false):=by
 have hd:=Kn g;have G:∀ {hh:FS}{r:Option Res},hh [some (row h kind ax,false),some (HF (row h kind ax),false)]=r->a8 (ba 1 (fA aQ (ag (am 0) aj))) hh [some (row h kind ax,false),none]=r:=λe=>rO (d:=HF (row h kind ax)) (b:=false) (bG (ds:=[row h kind ax]) rfl hd) (E2 _) e;rcases g.day with⟨e,_,r,rfl⟩|⟨e,⟨day,r,rfl,O,T,M⟩,hi⟩
 ·exact aw rfl (G (bF (dz (b:=false) (cK (x:=.non) (y:=.non) (b1:=false) (b2:=false) rfl rfl (by simp[xg]))) (ay rfl)))
 ·refine aw rfl (G (aK (dz (b:=false) (cK (x:=.int day) (y:=.non) (b1:=false) (b2:=false) rfl rfl (by simp[xg]))) (aK ((ft (p:=decide (kind=("chosen" : Str))) (q:=false) (dz (b:=false) (cK (x:=.str kind) (y:=.str "chosen") (b1:=false) (b2:=false) (bG (ds:=[row h kind (.int day::r)]) rfl (cn _ _ _)) rfl (P0 _ _))) λhc=>?_).trans (by rw[Bool.and_false])) (ay ?_))))
  ·have hc:=PN hc;subst hc;obtain⟨a,b,c,s,rfl,hs⟩:=M rfl;refine dz (b:=false) (cK (x:=.int s) (y:=.int day) (b1:=false) (b2:=false) (bG (ds:=[row h ("chosen" : Str) [.int day,a,b,c,.int s],.str "since"]) rfl (bA (i:=4) (rN (by decide +kernel)) rfl)) rfl ?_);simp;omega
  ·refine cK (x:=.int day) (y:=.int h) (b1:=false) (b2:=false) rfl (by simp[row,Ig]) ?_;simp;omega
def Ko {k:Nat}{r:D}(g:qd k r):rV [r]=some (.bl true,false):=by
 obtain⟨h,kind,ax,rfl,h0,h1,g⟩:=g;refine aw rfl (aK (ee (p:=false) (q:=false) (by simp[row]) λ_=>by simp[row]) (ay ((dA (p:=true) (q:=true) (b1:=false) (bG (ds:=[.int h]) (by simp[row,Ig]) (Km h0 h1)) λ_=>(dA (p:=true) (q:=true) (b1:=false) (bG (ds:=[.tup (.str kind::ax)]) (by simp[row,GH]) (HG g)) λ_=>bG (ds:=[row h kind ax]) rfl (B5 g)).trans rfl).trans rfl)))
noncomputable def wB:D->Str
 |.tup [_,.tup (_::.str o::_)]=>o
 |_=>("" : Str)
def Kp:mo bQ (.str "root") (.str "office")=some (.int 0,false):=rN (by decide +kernel)
def tN {k:Nat}{r:D}(g:qd k r)(h:bp r=true):au [r,.str "office"]=some (.str (wB r),false)/\wB r=off k/\(k=0∨k=2):=by
 obtain⟨a,kind,ax,rfl,_,_,g⟩:=g;have h:kind=("root" : Str):=PN h;subst h;rcases g.day with⟨_,hk,r,rfl⟩|⟨e,_⟩
 ·exact⟨bA (i:=0) Kp rfl,rfl,hk⟩
 ·exact absurd rfl e
def tO {k:Nat}{r:D}(g:qd k r):a9 [r]=some (.str (kindOf r),false):=by
 obtain⟨a,kind,ax,rfl,_⟩:=g;exact cn _ _ _
def Kq (k:Str)(G:LS):DC (.str k) (.lst (G.map .str))=some (.bl (decide (k∈G)),false):=by
 simp only[DC,gM,vJ,nO];rw[if_pos ⟨rfl,lG G⟩]
def Ag (af:LD):Prop:=af.length<=24/\∀(j:Nat) r,af[j]? = some r->qd j r
def Ag.mem {af:LD}(g:Ag af){r:D}(h:r∈af):∃k,qd k r:=by
 obtain⟨j,hj⟩:=mem_iff_getElem?.mp h;exact⟨j,g.2 j r hj⟩
def E3 {af:LD}(g:Ag af){i:Nat}{r:D}(hr:af[i]? = some r):gh [.tup (af.take i),r]=some (.bl false,false):=by
 have hi:=(vV hr).1;have gr:=g.2 i r hr;have Yt:=g.1;refine aw rfl (ay ((dA (p:=bp r) (q:=false) (b1:=false) (cK (x:=.str (kindOf r)) (y:=.str "root") (b1:=false) (b2:=false) (bG (ds:=[r]) rfl (tO gr)) rfl (P0 _ _)) λM=>?_).trans (by rw[Bool.and_false])));obtain⟨ho,T,hk⟩:=tN gr M;have G:∀x∈af.take i,∃j,j<i/\qd j x:=λx hx=>by
  obtain⟨j,hj⟩:=mem_iff_getElem?.mp hx;rw[List.getElem?_take]at hj;split at hj
  ·rename_i U;exact⟨j,U,g.2 j x hj⟩
  ·cases hj
 have hc:=fW (fi:=bM (am 0)) (nT:=1) (cap:=[]) (tg:=cU 0) (c:=aT (f2 dj (fA a9 (ag (am 0) aj)) (fC (.str "root")))) (fe:=fA au (ag (am 0) (ag (fC (.str "office")) aj))) (ρ:=[some (.tup (af.take i),false)]) (af.take i) (λx=>x) bp (λx=>.str (wB x)) (by simp) (by simp;omega) λx hx=>by
  obtain⟨j,hj,O⟩:=G x hx;exact⟨_,rfl,dz (b:=false) (cK (x:=.str (kindOf x)) (y:=.str "root") (b1:=false) (b2:=false) (bG (ds:=[x]) (by simp[dq]) (tO O)) rfl (P0 _ _)),λhx=>⟨false,bG (ds:=[x,.str "office"]) (by simp[dq]) (tN O hx).1⟩⟩
 have XI:iG [.tup (af.take i)]=some (.lst ((((af.take i).filter bp).map wB).map .str),true):=by
  rw[uP];exact aw rfl (ay hc)
 refine cK (x:=.str (wB r)) (y:=.lst ((((af.take i).filter bp).map wB).map .str)) (b1:=false) (b2:=true) (bG (ds:=[r,.str "office"]) rfl ho) (bG (ds:=[.tup (af.take i)]) rfl XI) ?_;rw[Kq];congr 3;refine PK λHW=>?_;obtain⟨x,hx,e⟩:=vO HW;obtain⟨hx,Th⟩:=vN hx;obtain⟨j,hj,O⟩:=G x hx;obtain⟨_,XJ,XM⟩:=tN O Th;rw[T,XJ]at e;have:¬off 0=off 2:=by decide +kernel
 rcases hk with rfl|rfl<;>rcases XM with rfl|rfl
 ·omega
 ·omega
 ·exact this e
 ·omega
theorem Ah:∀(ss G:LS){x:Str},x∈ss.foldl ji G->x∈G∨x∈ss
 |[],G,x,h=>.inl h
 |y::ss,G,x,h=>by
  rw[foldl_cons]at h;rcases Ah ss (ji G y) h with h|h
  ·rcases qW.mp h with h|h
   ·exact .inl h
   ·exact .inr (h ▸ mX)
  ·exact .inr (mZ _ h)
theorem tP:∀(ss G:LS),G.Nodup->(ss.foldl ji G).Nodup
 |[],G,h=>h
 |y::ss,G,h=>tP ss (ji G y) (AT h y)
def Ai {ss:LS}{x:Str}(h:x∈ga ss):x∈ss:=by
 rcases Ah ss [] h with h|h
 ·cases h
 ·exact h
theorem Aj:∀(l m:LS),l.Nodup->(∀x∈l,x∈m)->l.length<=m.length
 |[],m,_,_=>uN _
 |x::l,m,h,s=>by
  rw[nodup_cons]at h;have hx:=s x mX;have:=Aj l (m.erase x) h.2 λy hy=>(List.mem_erase_of_ne (a:=y) (b:=x) (λe=>h.1 (by rw[←e];exact hy))).mpr (s y (mZ _ hy));rw[List.length_erase_of_mem hx]at this;have:0<m.length:=List.length_pos_of_mem hx;rw[vE];omega
def HH {h:Int}{kind:Str}{ax:LD}{parts:LS}(hp:mh bQ (.str kind)=some (.tup (parts.map .str),false)):gm [row h kind ax]=some (.lst ((parts.zip ax).map λx=>.tup [.str x.1,x.2]),true):=by
 refine aw rfl (ay ?_);have G:f1 (mh bQ) (fA a9 (ag (am 0) aj)) [some (row h kind ax,false)]=some (.tup (parts.map .str),false):=Dj (x:=.str kind) (b:=false) (bG (ds:=[row h kind ax]) rfl (cn h kind ax)) hp;have e2:tT (f2 bK (am 0) (fC (.int 1))) (dI (fC (.int 1))) fF [some (row h kind ax,false)]=some (.tup ax,false):=by simp[row,GH,Pz]
 show(((f1 (mh bQ) (fA a9 (ag (am 0) aj)) [some (row h kind ax,false)]).bind λx=>(tT (f2 bK (am 0) (fC (.int 1))) (dI (fC (.int 1))) fF [some (row h kind ax,false)]).bind λy=>(gM x.1).bind λxs=>(gM y.1).map λys=>jh xs ys).map λds=>(D.lst ds,true))=_;rw[G,e2];simp[Ae]
def E4 {k:Nat}{r:D}(g:qd k r):∃ss:LS,gO [r]=some (.lst (ss.map .str),true)/\ss.length<=2/\∀s∈ss,s∈P6:=by
 obtain⟨h,kind,ax,rfl,_,_,g⟩:=g;obtain⟨parts,ss,hp,hl,_,hk,M,O⟩:=g.parts;have G:=fW (fi:=bM (fA gm (ag (am 0) aj))) (nT:=2) (cap:=[]) (tg:=DG [0,1]) (c:=eU (aT (f2 DC (am 0) (fC eB))) (aT (f2 jI (am 1) (fC .non)))) (fe:=am 1)
  (ρ:=[some (row h kind ax,false),none]) (parts.zip ax) (λx=>.tup [.str x.1,x.2]) (λx=>fD x.1 && there x.2) (·.2) (by
   have U:fA gm (ag (am 0) aj) [some (row h kind ax,false),none]=_:=bG (ds:=[row h kind ax]) rfl (HH hp);show Option.bind (fA gm (ag (am 0) aj) [some (row h kind ax,false),none]) _=_;rw[U];rfl) (by
   have:=g.len;rw[length_zip];omega) λx hx=>by
   have T:=(g.flat x.2 (of_mem_zip hx).2);refine⟨_,rfl,ft (dz (b:=false) ?_) λ_=>dz (b:=false) ?_,λ_=>⟨false,?_⟩⟩
   ·refine cK (x:=.str x.1) (y:=eB) (b1:=false) (b2:=false) (by simp[dq]) rfl ?_;simp[eB,fD,fT]
   ·exact cK (x:=x.2) (y:=.non) (b1:=false) (b2:=false) (by simp[dq]) rfl (Af _ T.2)
   ·simp[dq]
 refine⟨kH (ga ss),aw rfl (cG (ds:=ss.map .str) ?_ (cL ss) (ay ?_)),?_,?_⟩
 ·exact hk ▸ G
 ·have:ss.length<64:=by omega
  simp[this]
 ·rw[(gd _).length_eq];exact vR (qX ss) M
 ·intro s hs;exact O s (Ai ((gd _).mem_iff.mp hs))
def E5 {af:LD}(g:∀r∈af,∃k,qd k r)(hl:af.length<=60):∃n:Nat,iH [.tup af]=some (.int n,false)/\n<=6:=by
 obtain⟨ρ',e,zs,v,rfl,hz,G⟩:=eZ (tg:=cU 2) (g:=kg) (λi ρ=>∃(zs:LS)(v:OB),ρ=[some (.tup af,false),some (.lst (zs.map .str),true),v]/\zs.length<=2*i/\∀z∈zs,z∈P6) af
  [some (.tup af,false),some (.lst [],true),none] ⟨[],none,rfl,by simp,by simp⟩ (by
   rintro i d ρ hd ⟨zs,v,rfl,hz,G⟩;have hi:=(vV hd).1;obtain⟨k,T⟩:=g d (vL hd);obtain⟨ss,hp,U,M⟩:=E4 T;have hsz:(zs.map D.str).length+(ss.map D.str).length<=sizeLine:=eA (by simp;omega);refine⟨_,[some (.tup af,false),some (.lst ((zs++ss).map .str),true),some (d,false)],rfl,.inl ?_,zs++ss,some (d,false),rfl,by simp;omega,?_⟩
   ·have hv:fA gO (ag (am 2) aj) [some (.tup af,false),some (.lst (zs.map .str),true),some (d,false)]=some (.lst (ss.map .str),true):=bG (ds:=[d]) rfl hp;show FK 1 (fA gO (ag (am 2) aj)) [some (.tup af,false),some (.lst (zs.map .str),true),some (d,false)]=_;simp only[FK,getElem?_cons_succ,List.getElem?_cons_zero,hv,vJ];rw[if_pos ⟨trivial,cL ss,hsz⟩];simp
   ·intro z O;rcases mem_append.mp O with h|h
    ·exact G z h
    ·exact M z h)
 refine⟨(ga zs).length,aw rfl (cG (ds:=[]) (by simp[sizeLine]) rfl (dP (gI (ds:=af) (by simp[gU]) e) (ay (Dj (x:=.lst (zs.map .str)) (b:=false) rfl ?_)))),?_⟩
 ·have:zs.length<4000:=by omega
  simp only[mU,sZ,vJ,if_pos this]
 ·exact vR (Aj (ga zs) P6 (tP zs [] nodup_nil) λz hz=>G z (Ai hz)) (by decide)
def B6 {af:LD}(g:Ag af){i:Nat}(hi:i<af.length):jQ [.tup af,.int i]=some (.bl false,false):=by
 obtain⟨r,O⟩:∃r,af[i]? = some r:=⟨_,vU hi⟩;have ha:=bT O;have T:=g.1;have G:∀ρ:DL.Env,ρ[0]? = some (some (.tup af,false))->ρ[1]? = some (some (.int i,false))->f2 bK (am 0) (am 1) ρ=some (r,false):=λρ h0 h1=>by simp[h0,h1,ha]
 obtain⟨n,hn,U⟩:=E5 (af:=af.take (i+1)) (λx hx=>g.mem (List.mem_of_mem_take hx)) (by simp;omega);have M:=Ad af (i+1);rw[Int.natCast_add]at M;refine aw rfl (aK (ee (p:=false) (q:=false) (dz (b:=false) (by simp[iW];omega)) λ_=>bN (p:=true) (dz (b:=false) (bG (ds:=[r]) (aS (G _ rfl rfl) rfl) (Ko (g.2 i r O))))) (ay ((no (p:=false) (q:=false) (b1:=false) (bG (ds:=[.tup (af.take i),r]) (aS (d:=.tup (af.take i)) (b:=false) (by simp[Ad]) (aS (G _ rfl rfl) rfl)) (E3 g O)) λ_=>cK (x:=.int n) (y:=.int 20) (b1:=false) (b2:=false) (bG (ds:=[.tup (af.take (i+1))]) (aS (d:=.tup (af.take (i+1))) (b:=false) (by simp;exact M) rfl) hn) rfl (by simp;omega)).trans rfl)))
def Ak {af:LD}(g:Ag af)(hf:bD af=true)(d:D)(hd:d=.lst af∨d=.tup af):jl [d]=some (.tup af,false):=by
 have hl:=g.1;obtain⟨ρ',e,v,rfl⟩:=rK (tg:=cU 2) (g:=kY) af.length (λi ρ=>∃v:OB,ρ=[some (d,false),some (.tup af,false),v])
  [some (d,false),some (.tup af,false),none] ⟨none,rfl⟩ (by
   rintro i ρ hi ⟨v,rfl⟩;exact⟨_,_,rfl,.inl (nn (dz (b:=false) (bG (ds:=[.tup af,.int i]) rfl (B6 g hi))) rfl),some (.int i,false),rfl⟩)
 refine aw rfl (aK (bN (p:=true) (dz (b:=false) (bG (ds:=[d,.tup [.ty "list",.ty "tuple"]]) (aS rfl (aS (d:=.tup [.ty "list",.ty "tuple"]) (b:=false) (by simp[sizeLine]) rfl)) ?_))) (rO (d:=.tup af) (b:=false) (bG (ds:=[d]) rfl ?_) (by simp[hf]) (dP (rP (oE (j:=af.length) (b:=false) (by simp) (by omega)) e) (lB rfl))))
 ·rcases hd with rfl|rfl<;>simp
 ·rcases hd with rfl|rfl<;>simp
end Lw
namespace Lw
open PySem PySem.Spec DL L2
def HI {a b:Int}(ha : -18446744073709551616<a/\a<18446744073709551616)(hb : -18446744073709551616<b/\b<18446744073709551616):AI (.int a) (.int b)=some (.int (a*b),false):=by simp[ha,hb]
def oV (ns:LI)(j:Nat):∃c:Int,bZ [.lst (ns.map .int),.int j]=sI c:=by
 have t:aT (f2 AJ (am 1) (fA dR (fV 0 aj))) [sL (ns.map .int),sI j]=some (decide (j<ns.length)):=dD (bX (.int j) (.int ns.length) rfl (aN [.lst (ns.map .int)] rfl (by simp)) (by simp));by_cases h:j<ns.length
 ·rw[Aq h]at t;exact⟨_,aw rfl (bF t (ay (bX (.lst (ns.map .int)) (.int j) rfl rfl (xL (by omega) (by simpa using h)))))⟩
 ·rw[PK h]at t;exact⟨0,aw rfl (aK t (ay rfl))⟩
def oW (c:Int)(s m:Nat)(hs:s<=100)(hm:m<=100):∃xs:LI,fy [.int c,.int s,.int m]=some (.lst (xs.map .int),true)/\xs.length=m/\∀x∈xs,0<=x/\x<2147483647:=by
 let E:LI->Int->OB->DL.Env:=λxs x v=>[some (.int c,false),some (.int s,false),some (.int m,false),some (.lst (xs.map .int),true),some (.int x,false),v];have U:=mod_lt (x:=c) (m:=2147483647) (by decide);obtain⟨M,O⟩:∃M,(c % 2147483647*48271+(s:Int)*(s:Int)*69621+11) % 2147483647=M:=⟨_,rfl⟩;have T:=mod_lt (x:=c % 2147483647*48271+(s:Int)*(s:Int)*69621+11) (m:=2147483647) (by decide);rw[O]at T;obtain⟨ρ',e,xs,x,v,rfl,hl,hx,G⟩:=rK (tg:=cU 5) (g:=p9) m (λi ρ=>∃xs x v,ρ=E xs x v/\xs.length=i/\(0<=x/\x<2147483647)/\∀y∈xs,0<=y/\y<2147483647) (E [] M none) ⟨[],M,none,rfl,rfl,T,by simp⟩ (by
  rintro i ρ hi ⟨xs,x,v,rfl,hl,hx,G⟩;obtain⟨y,hy⟩:∃y,(x*x+48271*x+(i:Int)+(s:Int)) % 2147483647=y:=⟨_,rfl⟩;have hb:=mod_lt (x:=x*x+48271*x+(i:Int)+(s:Int)) (m:=2147483647) (by decide);rw[hy]at hb;refine⟨E xs x (some (.int i,false)),E (xs++[y]) y (some (.int i,false)),rfl,.inl (rO (d:=.int y) (b:=false) ?_ rfl ?_),_,_,_,rfl,by rw[uZ,length_singleton,hl],hb,?_⟩
  ·refine cK (x:=.int (x*x+48271*x+(i:Int)+(s:Int))) (y:=.int 2147483647) (b1:=false) (b2:=false) (cK (x:=.int (x*x+48271*x+(i:Int))) (y:=.int s) (b1:=false) (b2:=false) (cK (x:=.int (x*x+48271*x)) (y:=.int i) (b1:=false) (b2:=false) (cK (x:=.int (x*x)) (y:=.int (48271*x)) (b1:=false) (b2:=false) (cK (x:=.int x) (y:=.int x) (b1:=false) (b2:=false) rfl rfl (HI (by omega) (by omega))) (cK (x:=.int 48271) (y:=.int x) (b1:=false) (b2:=false) rfl rfl (HI (by omega) (by omega))) rfl) rfl rfl) rfl rfl) rfl ?_;rw[←hy];rfl
  ·refine(oD (ds:=xs.map .int) (d:=.int y) (b:=false) rfl rfl rfl (cR (by rw[vI];omega))).trans ?_;simp[E]
  ·intro z hz;rcases mem_append.mp hz with h|h
   ·exact G z h
   ·rw[uT h];exact hb)
 refine⟨xs,aw rfl (cG (ds:=[]) rfl rfl (rO (d:=.int M) (b:=false) ?_ rfl (dP (rP (oE (j:=m) (b:=false) rfl (by omega)) e) (lB rfl)))),hl,G⟩;refine cK (x:=.int (c % 2147483647*48271+(s:Int)*(s:Int)*69621+11)) (y:=.int 2147483647) (b1:=false) (b2:=false) (cK (x:=.int (c % 2147483647*48271+(s:Int)*(s:Int)*69621)) (y:=.int 11) (b1:=false) (b2:=false) (cK (x:=.int (c % 2147483647*48271)) (y:=.int ((s:Int)*(s:Int)*69621)) (b1:=false) (b2:=false) (cK (x:=.int (c % 2147483647)) (y:=.int 48271) (b1:=false) (b2:=false) (cK (x:=.int c) (y:=.int 2147483647) (b1:=false) (b2:=false) rfl rfl rfl) rfl (HI (by omega) (by omega))) (cK (x:=.int ((s:Int)*(s:Int))) (y:=.int 69621) (b1:=false) (b2:=false) (cK (x:=.int s) (y:=.int s) (b1:=false) (b2:=false) rfl rfl (HI (by omega) (by omega))) rfl (HI ?_ (by omega))) rfl) rfl rfl) rfl ?_
 ·have h1:(s:Int)*(s:Int)<=100*100:=Int.mul_le_mul (by omega) (by omega) (by omega) (by omega);have h2:0<=(s:Int)*(s:Int):=Int.mul_nonneg (by omega) (by omega);omega
 ·rw[←O];rfl
def QC (a b:Int):dj (.int a) (.int b)=some (.bl (decide (a=b)),false):=by simp
def P1 (a:Int){m:Int}(h:0<m):cq (.int a) (.int m)=some (.int (a % m),false):=by simp[h]
def Ni (a:Int){m:Int}(h:0<m)(h2:m<1073741824):mP (.int a) (.int m)=some (.int (a / m),false):=by simp[h,h2]
section
variable {xs:LI}(hl:8<=xs.length∨xs.length=6) {ρ:DL.Env}{v:Nat}{b:Bool}(h:ρ[v]? = some (some (.lst (xs.map .int),b)))
include hl h
theorem RO (i:Nat)(hi:i<6∨i<8/\8<=xs.length):cj v (i:Int) ρ=sI (xs.getD i 0):=by
 refine cK (x:=.lst (xs.map .int)) (y:=.int i) (b1:=false) (b2:=false) (by simp[h]) rfl ?_;have:=xL (xs:=xs) (i:=(i:Int)) (by omega) (by simp;omega);simpa using this
theorem EE (i:Nat)(hi:i<6∨i<8/\8<=xs.length){m:Int}(hm:0<m):f2 cq (cj v (i:Int)) (fI m) ρ=sI (xs.getD i 0 % m):=bX (.int (xs.getD i 0)) (.int m) (RO hl h i hi) rfl (P1 _ hm)
theorem RP (i:Nat)(hi:i<6∨i<8/\8<=xs.length){m:Int}(hm:0<m)(h2:m<1073741824):f2 mP (cj v (i:Int)) (fI m) ρ=sI (xs.getD i 0 / m):=bX (.int (xs.getD i 0)) (.int m) (RO hl h i hi) rfl (Ni _ hm h2)
end
def im {f:FE}{ρ:DL.Env}{a m:Int}(e:f ρ=sI a)(h:0<m):f2 cq f (fI m) ρ=sI (a % m):=bX (.int a) (.int m) e rfl (P1 a h)
noncomputable def NW:List (Int×OI):=(List.range 4).flatMap λ(s:Nat)=>((s:Int),none)::(List.range 9).map λ(j:Nat)=>((s:Int),some ((s:Int)+1+(j:Int)))
def B7 {x:Int}:∃y∈NW,iX [.int x]=some (jD y,false):=by
 have M:=mod_lt (x:=x) (m:=4) (by decide);have O:=mod_lt (x:=x / 8) (m:=9) (by decide);obtain⟨s,hs⟩:∃s:Nat,x % 4=s:=⟨(x % 4).toNat,by omega⟩;obtain⟨j,hj⟩:∃j:Nat,x / 8 % 9=j:=⟨(x / 8 % 9).toNat,by omega⟩;let E:DL.Env:=[sI x,sI s];have G:f2 cq (am 0) (fI 4) [sI x,none]=sI s:=hs ▸ im rfl (by decide);have t:aT (f2 dj (f2 cq (f2 mP (am 0) (fI 4)) (fI 2)) (fI 0)) E=some (decide (x / 4 % 2=0)):=dD (bX (.int (x / 4 % 2)) (.int 0) (im (bX (.int x) (.int 4) rfl rfl (Ni _ (by decide) (by decide))) (by decide)) rfl (QC _ _));by_cases h:x / 4 % 2=0
 ·rw[Aq h]at t;exact⟨((s:Int),none),List.mem_flatMap.mpr ⟨s,mem_range.mpr (by omega),mX ..⟩,aw rfl (jC (.int s) G rfl (bF t (ay (aN [.int s,.non] rfl (cz _ (by simp))))))⟩
 ·rw[PK h]at t;refine⟨((s:Int),some ((s:Int)+1+(j:Int))),List.mem_flatMap.mpr ⟨s,mem_range.mpr (by omega),mZ _ (uS ⟨j,mem_range.mpr (by omega),rfl⟩)⟩,aw rfl (jC (.int s) G rfl (aK t (ay (aN [.int s,.int ((s:Int)+1+(j:Int))] (bY rfl (bY ?_ rfl)) (cz _ (by simp))))))⟩;exact bX (.int ((s:Int)+1)) (.int j) (bX (.int s) (.int 1) rfl rfl rfl) (hj ▸ im (bX (.int x) (.int 8) rfl rfl (Ni _ (by decide) (by decide))) (by decide)) rfl
def PV (p:Str)(d:D):Bool:=Pq (ir [.str p,d]) (.bl true) false
def ij:LS->LD->Bool
 |p::ps,d::ds=>PV p d && ij ps ds
 |_,_=>true
theorem oZ:∀ {ps:LS}{ds:LD},ij ps ds=true->∀x∈ps.zip ds,ir [.str x.1,x.2]=some (.bl true,false)
 |[],_,_,x,h=>by simp at h
 |_::_,[],_,x,h=>by simp at h
 |p::ps,d::ds,h1,x,h=>by
  have h1:=(vC _ _ ▸ h1:PV p d=true/\ij ps ds=true);rw[zip_cons_cons]at h;rcases vP h with rfl|h
  ·exact rN h1.1
  ·exact oZ h1.2 x h
def aR {p:Str}{d:D}{ps:LS}{ds:LD}(h:PV p d=true)(r:ij ps ds=true):ij (p::ps) (d::ds)=true:=by unfold ij;rw[h,r];rfl
def jr:∀n:_root_.Fin 10,PV "day" (.int (n.val:Int))=true:=by decide +kernel
def Dk:∀n:_root_.Fin 14,PV "of" (.int (n.val:Int))=true:=by decide +kernel
def Nj:∀n:_root_.Fin 4,PV "further" (.int (n.val:Int))=true:=by decide +kernel
def Nk:∀m∈[1,2,3,7],PV "matters" (.int ((m:Nat):Int))=true:=by decide +kernel
def HJ:∀z∈P6,(PV "by" (.str z) && PV "person" (.str z) && PV "whom" (.str z))=true:=by decide +kernel
def Al:∀x∈NW,PV "stretch" (jD x)=true:=by decide +kernel
def P2:∀c:_root_.Fin 3,PV "changes" (.tup [.tup [.int (c.val:Int),.str "d"]])=true:=by decide +kernel
def Nl:∀m∈[1,2,3,7],m∈MS:=by decide
def tQ {z:Str}(h:z∈P6):PV "by" (.str z)=true:=by have:=HJ z h;simp only[vC]at this;exact this.1.1
def Dl {z:Str}(h:z∈P6):PV "person" (.str z)=true:=by have:=HJ z h;simp only[vC]at this;exact this.1.2
def Lr {z:Str}(h:z∈P6):PV "whom" (.str z)=true:=by have:=HJ z h;simp only[vC]at this;exact this.2
def TC:fD ("office" : Str)=false:=by decide +kernel
def NX:fD ("matters" : Str)=false:=by decide +kernel
def TD:fD ("further" : Str)=false:=by decide +kernel
def HK:fD ("day" : Str)=false:=by decide +kernel
def P4:fD ("person" : Str)=true:=by decide +kernel
def Nm:fD ("by" : Str)=true:=by decide +kernel
def P5:fD ("stretch" : Str)=false:=by decide +kernel
def Kr:fD ("whom" : Str)=true:=by decide +kernel
def P7:fD ("pieces" : Str)=false:=by decide +kernel
def Ks:fD ("of" : Str)=false:=by decide +kernel
def P8:fD ("changes" : Str)=false:=by decide +kernel
def HL {k day:Nat}{h:Int}{kind:Str}{r:LD}(parts ss:LS)(hc:mh bQ (.str kind)=some (.tup (parts.map .str),false))(hl:parts.length=(D.int (day:Int)::r).length)(hp:ij parts (.int (day:Int)::r)=true)(hk:oi (parts.zip (.int (day:Int)::r))=ss.map .str)(O:∀s∈ss,s∈P6)(hf:(r.all λd=>bC d && !xi d)=true)(hd:(day:Int)<=h)(h2:decide (ss.length<=2)=true:=by rfl)(G:decide (r.length<=9)=true:=by rfl)(M:(decide (kind = "root") || decide (kind = "chosen"))=false:=by decide +kernel)(hi:mo bQ (.str kind) (.str "day")=sI 0:=by exact cC):DeedG k h kind (.int (day:Int)::r) :=
 have M:=Bool.or_eq_false_iff.mp M
 ⟨⟨parts,ss,hc,hl,oZ hp,hk,PN h2,O⟩,by have:=PN G;rw[vE];omega,λd hd=>by
  rcases vP hd with rfl|hd
  ·exact⟨rfl,rfl⟩
  ·have:=uR hf d hd;rw[vC]at this;exact⟨this.1,by simpa using this.2⟩,.inr ⟨of_decide_eq_false M.1,⟨day,_,rfl,hd,by omega,λe=>absurd e (of_decide_eq_false M.2)⟩,hi⟩⟩
def Am (x:Int×OI):(bC (jD x) && !xi (jD x))=true:=by rw[ls];rfl
structure Dw (k day:Nat)(kind:Str)(ax:List D):Prop where
 dd:Dd kind ax
 g:∀h:Int,(day:Int)<=h->DeedG k h kind ax
 w:∀h:Int,Aa (row h kind ax)
 nr:decide (kind = "root")=false
 q:∀h:Int,Rq k (row h kind ax)
def now {kind:Str}{ax:LD}(h:Int)(e:(decide (kind = "paper") || decide (kind = "like"))=false):Aa (row h kind ax):=λz=>by
 have e:=Bool.or_eq_false_iff.mp e;rcases z with z|z
 ·exact absurd z (of_decide_eq_false e.1)
 ·exact absurd z (of_decide_eq_false e.2)
section
variable {k day n:Nat}{by_ Az:Str}(hd:day<10) (hb:by_∈P6)
include hd hb
theorem Kt (kind:Str)(hk:kind = "death" ∨ kind = "lost" ∨ kind = "found"):Dw k day kind [.int (day:Int),.str by_]:=by
 refine⟨.three kind hk _ _,λh hh=>?_,λh=>now h (by rcases hk with rfl|rfl|rfl<;>decide +kernel),by rcases hk with rfl|rfl|rfl<;>decide +kernel,λh=>.non _ (by show kind∉cX;rcases hk with rfl|rfl|rfl<;>decide +kernel)⟩
 rcases hk with rfl|rfl|rfl
 ·exact HL ["day","person"] [by_] cC rfl (aR (jr ⟨day,hd⟩) (aR (Dl hb) rfl)) (by simp[oi,HK,P4]) (by simpa using hb) rfl hh
 ·exact HL ["day","person"] [by_] cC rfl (aR (jr ⟨day,hd⟩) (aR (Dl hb) rfl)) (by simp[oi,HK,P4]) (by simpa using hb) rfl hh
 ·exact HL ["day","person"] [by_] cC rfl (aR (jr ⟨day,hd⟩) (aR (Dl hb) rfl)) (by simp[oi,HK,P4]) (by simpa using hb) rfl hh
theorem HM (hn:n<14)(G:n<k)(kind:Str)(hk:kind = "copy" ∨ kind = "call"):Dw k day kind [.int (day:Int),.str by_,.int (n:Int)]:=by
 refine⟨.copy kind hk _ _ _,λh hh=>?_,λh=>now h (by rcases hk with rfl|rfl<;>decide +kernel),by rcases hk with rfl|rfl<;>decide +kernel,λh=>by
  rcases hk with rfl|rfl
  ·exact .copy h _ n rfl G
  ·exact .non _ (by show("call" : Str)∉cX;decide +kernel)⟩
 rcases hk with rfl|rfl
 ·exact HL ["day","by","of"] [by_] cC rfl (aR (jr ⟨day,hd⟩) (aR (tQ hb) (aR (Dk ⟨n,hn⟩) rfl))) (by simp[oi,HK,Nm,Ks]) (by simpa using hb) rfl hh
 ·exact HL ["day","by","of"] [by_] cC rfl (aR (jr ⟨day,hd⟩) (aR (tQ hb) (aR (Dk ⟨n,hn⟩) rfl))) (by simp[oi,HK,Nm,Ks]) (by simpa using hb) rfl hh
theorem Ku (G:Az∈P6){m f:Nat}(hm:m∈[1,2,3,7]){x:Int×OI}(hx:x∈NW)(hf:f<4):Dw k day "leave" [.int (day:Int),.str by_,.str Az,.int (m:Int),jD x,.int (f:Int)] :=
 ⟨.leave _ _ _ m (Nl m hm) x _,λh hh=>HL ["day","by","person","matters","stretch","further"] [by_,Az] cC rfl (aR (jr ⟨day,hd⟩) (aR (tQ hb) (aR (Dl G) (aR (Nk m hm) (aR (Al x hx) (aR (Nj ⟨f,hf⟩) rfl)))))) (by simp[oi,NX,TD,HK,P4,Nm,P5]) (by simp[hb,G]) (by simp only[all_cons,Am];rfl) hh,λh=>now h (by decide +kernel),by decide +kernel,λh=>.non _ (by show("leave" : Str)∉cX;decide +kernel)⟩
theorem Kv (O:Az∈P6){w:D}(hw:w=.non∨w=.str Az){x:Int×OI}(hx:x∈NW){v:D}{ps:LS}(T:v=.tup (ps.map .str))(hv:ps=[("aa" : Str)]∨ps=[("aa" : Str),"b"]∨ps=[("aa" : Str),"b","cc"]):Dw k day "paper" [.int (day:Int),.str by_,.int 1,jD x,w,v]:=by
 subst T;have M:PV "pieces" (.tup (ps.map .str))=true:=by rcases hv with rfl|rfl|rfl<;>decide +kernel
 have G:bC (.tup (ps.map .str))=true/\xi (.tup (ps.map .str))=false/\there (.tup (ps.map .str))=true/\aH 5 (.tup (ps.map .str))=true:=by rcases hv with rfl|rfl|rfl<;>exact⟨rfl,rfl,rfl,rfl⟩
 refine⟨.paper "paper" (.inl rfl) _ _ 1 (by decide) x [w,.tup (ps.map .str)] (by rcases hw with rfl|rfl<;>simp[G.1]) (by rcases hw with rfl|rfl<;>simp[G.2.2.2,aH]),λh hh=>?_,λh _=>⟨x,w,_,_,_,_,1,_,.inl rfl,rfl,hw.imp id λe=>⟨_,e⟩⟩,by decide +kernel,λh=>.paper h _ ps rfl (by rcases hv with rfl|rfl|rfl<;>decide)⟩
 rcases hw with rfl|rfl
 ·exact HL ["day","by","matters","stretch","whom","pieces"] [by_] cC rfl (aR (jr ⟨day,hd⟩) (aR (tQ hb) (aR (by decide +kernel) (aR (Al x hx) (aR (by decide +kernel) (aR M rfl)))))) (by simp[oi,NX,HK,Nm,P5,Kr,P7]) (by simpa using hb) (by simp only[all_cons,Am,G.1,G.2.1];rfl) hh
 ·exact HL ["day","by","matters","stretch","whom","pieces"] [by_,Az] cC rfl (aR (jr ⟨day,hd⟩) (aR (tQ hb) (aR (by decide +kernel) (aR (Al x hx) (aR (Lr O) (aR M rfl)))))) (by simp[oi,NX,HK,Nm,P5,Kr,P7]) (by simp[hb,O]) (by simp only[all_cons,Am,G.1,G.2.1];rfl) hh
theorem Nn (O:Az∈P6){w:D}(hw:w=.non∨w=.str Az){x:Int×OI}(hx:x∈NW)(hn:n<14)(M:n<k){c:Nat}(hc:c<3):Dw k day "like" [.int (day:Int),.str by_,.int 1,jD x,w,.int (n:Int),.tup [.tup [.int (c:Int),.str "d"]]]:=by
 have G:PV "changes" (.tup [.tup [.int (c:Int),.str "d"]])=true:=P2 ⟨c,hc⟩;refine⟨.paper "like" (.inr rfl) _ _ 1 (by decide) x [w,.int (n:Int),.tup [.tup [.int (c:Int),.str "d"]]] (by rcases hw with rfl|rfl<;>simp) (by rcases hw with rfl|rfl<;>simp[aH]),λh hh=>?_,λh _=>⟨x,w,_,_,_,_,1,_,.inr rfl,rfl,hw.imp id λe=>⟨_,e⟩⟩,by decide +kernel,λh=>.like h _ n c rfl M rfl⟩
 rcases hw with rfl|rfl
 ·exact HL ["day","by","matters","stretch","whom","of","changes"] [by_] cC rfl (aR (jr ⟨day,hd⟩) (aR (tQ hb) (aR (by decide +kernel) (aR (Al x hx) (aR (by decide +kernel) (aR (Dk ⟨n,hn⟩) (aR G rfl))))))) (by simp[oi,NX,HK,Nm,P5,Kr,Ks,P8]) (by simpa using hb) (by simp only[all_cons,Am];rfl) hh
 ·exact HL ["day","by","matters","stretch","whom","of","changes"] [by_,Az] cC rfl (aR (jr ⟨day,hd⟩) (aR (tQ hb) (aR (by decide +kernel) (aR (Al x hx) (aR (Lr O) (aR (Dk ⟨n,hn⟩) (aR G rfl))))))) (by simp[oi,NX,HK,Nm,P5,Kr,Ks,P8]) (by simp[hb,O]) (by simp only[all_cons,Am];rfl) hh
end
abbrev eD (xs:LI)(k day:Nat)(G M:Str)(st:Int×OI)(n:Nat)(w:D)(O:Int):DL.Env:=[sL (xs.map .int),sI k,sI day,lT (P6.map .str),sS G,sS M,some (jD st,false),sI n,some (w,false),sI O]
def RQ:∀j:_root_.Fin 3,∃m∈[1,2,3,7],([1,3,7]:LI).getD j.val 0=((m:Nat):Int):=by decide
section
variable {xs:LI}(hl:xs.length=9) (k:Nat) (hk:1<=k/\k<=12) (day:Nat)
include hl hk
theorem HN:∃O G,∃st,∃n:Nat,∃w,∃wd:Int,(O∈P6/\G∈P6/\st∈NW/\(n<14/\n<k)/\(w=.non∨w=.str G))/\∀ {T:FS}{res:Option Res},T (eD xs k day O G st n w wd)=res ->
  (a8 (ba 3 (fA cx (ag (fS "ann") (ag (fS "bob") (ag (fS "cid") (ag (fS "dan") aj))))))
  (a8 (ba 4 (f2 bK (am 3) (f2 cq (f2 cq (cj 0 2) (fI 5)) (fI 4))))
  (a8 (ba 5 (f2 bK (am 3) (f2 cq (cj 0 3) (fI 4))))
  (a8 (ba 6 (fA iX (ag (cj 0 5) aj)))
  (a8 (ba 7 (fA F0 (ag (fI 0) (ag (f2 qL (f2 qL (am 1) (fI 1)) (f2 cq (cj 0 6) (fI 4))) aj))))
  (a8 (ba 8 (f2 bK (fA cx (ag (fC .non) (fV 5 aj))) (f2 cq (cj 0 7) (fI 2))))
  (a8 (ba 9 (f2 cq (cj 0 1) (fI 12))) T))))))) ([sL (xs.map .int),sI k,sI day,none,none,none,none,none,none,none])=res:=by
 have M:8<=xs.length∨xs.length=6:=by omega
 have m2:=mod_lt (x:=xs.getD 2 0 % 5) (m:=4) (by decide);have m3:=mod_lt (x:=xs.getD 3 0) (m:=4) (by decide);have m6:=mod_lt (x:=xs.getD 6 0) (m:=4) (by decide);have m7:=mod_lt (x:=xs.getD 7 0) (m:=2) (by decide);have h4:P6.length=4:=rfl;obtain⟨O,hb,eb⟩:=Bu (zs:=P6) (i:=xs.getD 2 0 % 5 % 4) (by omega) (by omega);obtain⟨G,ho,eo⟩:=Bu (zs:=P6) (i:=xs.getD 3 0 % 4) (by omega) (by omega);obtain⟨st,U,es⟩:=B7 (x:=xs.getD 5 0);obtain⟨n,hn,en⟩:∃n:Nat,(n<14/\n<k)/\F0 [.int 0,.int ((k:Int) - 1 - xs.getD 6 0 % 4)]=sI n:=by
  refine⟨((if(k:Int) - 1 - xs.getD 6 0 % 4 > 0 then (k:Int) - 1 - xs.getD 6 0 % 4 else 0)).toNat,by split<;>omega,?_⟩
  show some (D.int _,false)=_;rw[show(((if(k:Int) - 1 - xs.getD 6 0 % 4 > 0 then (k:Int) - 1 - xs.getD 6 0 % 4 else 0).toNat:Nat):Int)=(if(k:Int) - 1 - xs.getD 6 0 % 4 > 0 then (k:Int) - 1 - xs.getD 6 0 % 4 else 0) by split<;>omega]
 obtain⟨w,hw,ew⟩:∃w,(w=.non∨w=.str G)/\bK (.lst [.non,.str G]) (.int (xs.getD 7 0 % 2))=some (w,false):=by
  have:xs.getD 7 0 % 2=0∨xs.getD 7 0 % 2=1:=by omega
  rcases this with h|h<;>rw[h]
  ·exact⟨.non,.inl rfl,rfl⟩
  ·exact⟨_,.inr rfl,rfl⟩
 refine⟨O,G,st,n,w,xs.getD 1 0 % 12,⟨hb,ho,U,hn,hw⟩,λ{T res} hT=>?_⟩;refine cG (ds:=P6.map .str) (aN [.str "ann",.str "bob",.str "cid",.str "dan"] rfl (gA _ (by simp))) (cL _) ?_;refine jC (.str O) (bX (.lst (P6.map .str)) (.int (xs.getD 2 0 % 5 % 4)) rfl (im (EE (b:=false) M rfl 2 (by omega) (by decide)) (by decide)) eb) rfl ?_;refine jC (.str G) (bX (.lst (P6.map .str)) (.int (xs.getD 3 0 % 4)) rfl (EE (b:=false) M rfl 3 (by omega) (by decide)) eo) rfl ?_;refine jC (jD st) (aN [.int (xs.getD 5 0)] (bY (RO (b:=false) M rfl 5 (by omega)) rfl) es) (ls _) ?_;refine jC (.int n) (aN [.int 0,.int ((k:Int) - 1 - xs.getD 6 0 % 4)] (bY rfl (bY (bX (.int ((k:Int) - 1)) (.int (xs.getD 6 0 % 4)) (bX (.int k) (.int 1) rfl rfl rfl) (EE (b:=false) M rfl 6 (by omega) (by decide)) rfl) rfl)) en) rfl ?_;refine jC w (cK (x:=.lst [.non,.str G]) (y:=.int (xs.getD 7 0 % 2)) (b1:=true) (b2:=false) (aN [.non,.str G] rfl (gA _ (by simp))) (EE (b:=false) M rfl 7 (by omega) (by decide)) ew) (by rcases hw with rfl|rfl<;>rfl) ?_
 exact jC (.int (xs.getD 1 0 % 12)) (EE (b:=false) M rfl 1 (by omega) (by decide)) rfl hT
theorem Kw (hd:day<10):∃kind ax,rY [.lst (xs.map .int),.int k,.int day]=sT (.str kind::ax)/\Dw k day kind ax:=by
 have T:8<=xs.length∨xs.length=6:=by omega
 obtain⟨G,Az,st,n,w,M,⟨hb,U,EF,⟨hn,Tk⟩,hw⟩,pre⟩:=HN hl k hk day;obtain⟨E,O⟩:∃E,E=eD xs k day G Az st n w M:=⟨_,rfl⟩;rw[←O]at pre;have tl:∀z:Int,aT (f2 AJ (am 9) (fI z)) E=some (decide (M<z)):=λz=>by rw[O];exact dD (bX (.int M) (.int z) rfl rfl rfl)
 have te:∀z:Int,aT (f2 dj (am 9) (fI z)) E=some (decide (M=z)):=λz=>by rw[O];exact dD (bX (.int M) (.int z) rfl rfl (QC _ _))
 have h0:E[0]? = some (some (.lst (xs.map .int),false)):=by rw[O];rfl
 have m4:=mod_lt (x:=xs.getD 4 0) (m:=3) (by decide);obtain⟨j,hj⟩:∃j:Nat,xs.getD 4 0 % 3=j:=⟨(xs.getD 4 0 % 3).toNat,by omega⟩;have e4:f2 cq (cj 0 4) (fI 3) E=sI (j:Int):=hj ▸ EE T h0 4 (by omega) (by decide);by_cases w3:M<2
 ·have m7:=mod_lt (x:=xs.getD 7 0) (m:=4) (by decide);obtain⟨f,hf⟩:∃f:Nat,xs.getD 7 0 % 4=f:=⟨(xs.getD 7 0 % 4).toNat,by omega⟩;have e7:f2 cq (cj 0 7) (fI 4) E=sI (f:Int):=hf ▸ EE T h0 7 (by omega) (by decide);obtain⟨m,hm,em⟩:=RQ ⟨j,by omega⟩;have e5:f2 bK (fA cx (ag (fI 1) (ag (fI 3) (ag (fI 7) aj)))) (f2 cq (cj 0 4) (fI 3)) E=sI (m:Int):=cK (x:=.lst (([1,3,7]:LI).map .int)) (y:=.int (j:Int)) (b1:=true) (b2:=false) (aN [.int 1,.int 3,.int 7] rfl (gA _ (by simp))) e4 ((xL (by omega) (by show j<3;omega)).trans (by rw[toNat_natCast,em]));subst O;exact⟨"leave",_,aw rfl (pre (bF ((tl 2).trans (by rw[Aq w3])) (ay (aN [.str "leave",.int day,.str G,.str Az,.int m,jD st,.int (f:Int)] (bY rfl (bY rfl (bY rfl (bY rfl (bY e5 (bY rfl (bY e7 rfl))))))) (cz _ (by simp)))))),Ku hd hb U hm EF (by omega)⟩
 have t3:=(tl 2).trans (by rw[PK w3]);by_cases w7:M<6
 ·obtain⟨ps,hv,ev⟩:∃ps:LS,(ps=[("aa" : Str)]∨ps=[("aa" : Str),"b"]∨ps=[("aa" : Str),"b","cc"])/\tT (fA aX (ag (fS "aa") (ag (fS "b") (ag (fS "cc") aj)))) fF (dI (f2 fw (fI 1) (f2 cq (f2 mP (cj 0 7) (fI 2)) (fI 3)))) E=some (.tup (ps.map .str),false):=by
   have m7:=mod_lt (x:=xs.getD 7 0 / 2) (m:=3) (by decide);have e1:fA aX (ag (fS "aa") (ag (fS "b") (ag (fS "cc") aj))) E=sT [.str "aa",.str "b",.str "cc"]:=aN [.str "aa",.str "b",.str "cc"] rfl (cz _ (by simp));have e2:f2 fw (fI 1) (f2 cq (f2 mP (cj 0 7) (fI 2)) (fI 3)) E=sI (1+xs.getD 7 0 / 2 % 3):=bX (.int 1) (.int (xs.getD 7 0 / 2 % 3)) rfl (im (RP T h0 7 (by omega) (by decide) (by decide)) (by decide)) rfl;have:xs.getD 7 0 / 2 % 3=0∨xs.getD 7 0 / 2 % 3=1∨xs.getD 7 0 / 2 % 3=2:=by omega
   have U:∀q:Int,f2 fw (fI 1) (f2 cq (f2 mP (cj 0 7) (fI 2)) (fI 3)) E=sI q->tT (fA aX (ag (fS "aa") (ag (fS "b") (ag (fS "cc") aj)))) fF (dI (f2 fw (fI 1) (f2 cq (f2 mP (cj 0 7) (fI 2)) (fI 3)))) E=some (.tup (iR [.str "aa",.str "b",.str "cc"] none (some q)),false):=λq hq=>by
    have h1:dI (f2 fw (fI 1) (f2 cq (f2 mP (cj 0 7) (fI 2)) (fI 3))) E=some (some q):=by unfold dI;rw[hq]
    unfold tT;rw[e1,vJ,show fF E=some none from rfl,vJ,h1];rfl
   rcases this with h|h|h<;>rw[h]at e2
   ·exact⟨_,.inl rfl,U _ e2⟩
   ·exact⟨_,.inr (.inl rfl),U _ e2⟩
   ·exact⟨_,.inr (.inr rfl),U _ e2⟩
  subst O;exact⟨"paper",_,aw rfl (pre (aK t3 (bF ((tl 6).trans (by rw[Aq w7])) (ay (aN [.str "paper",.int day,.str G,.int 1,jD st,w,.tup (ps.map .str)] (bY rfl (bY rfl (bY rfl (bY rfl (bY rfl (bY rfl (bY ev rfl))))))) (cz _ (by simp))))))),Kv hd hb U hw EF rfl hv⟩
 have t7:=(tl 6).trans (by rw[PK w7]);by_cases w8:M<8
 ·subst O;exact⟨"like",_,aw rfl (pre (aK t3 (aK t7 (bF ((tl 8).trans (by rw[Aq w8])) (ay (aN [.str "like",.int day,.str G,.int 1,jD st,w,.int n,.tup [.tup [.int (j:Int),.str "d"]]] (bY rfl (bY rfl (bY rfl (bY rfl (bY rfl (bY rfl (bY rfl (bY (aN [.tup [.int (j:Int),.str "d"]] (bY (aN [.int (j:Int),.str "d"] (bY e4 rfl) (cz _ (by simp))) rfl) (cz _ (by simp))) rfl)))))))) (cz _ (by simp)))))))),Nn hd hb U hw EF hn Tk (by omega)⟩
 have t8:=(tl 8).trans (by rw[PK w8]);by_cases w10:M<10
 ·subst O;exact⟨"copy",_,aw rfl (pre (aK t3 (aK t7 (aK t8 (bF ((tl 10).trans (by rw[Aq w10])) (ay (aN [.str "copy",.int day,.str G,.int n] rfl (cz _ (by simp))))))))),HM hd hb hn Tk "copy" (.inl rfl)⟩
 have UV:=(tl 10).trans (by rw[PK w10]);by_cases w100:M=10
 ·subst O;exact⟨"call",_,aw rfl (pre (aK t3 (aK t7 (aK t8 (aK UV (bF ((te 10).trans (by rw[Aq w100])) (ay (aN [.str "call",.int day,.str G,.int n] rfl (cz _ (by simp)))))))))),HM hd hb hn Tk "call" (.inr rfl)⟩
 have Tl:=(te 10).trans (by rw[PK w100]);have m7:=mod_lt (x:=xs.getD 7 0) (m:=3) (by decide);obtain⟨kind,UW,e3⟩:=Bu (zs:=(["lost","found","death"]:LS)) (i:=xs.getD 7 0 % 3) (by show -3<=_;omega) (by show _<3;omega);have e7:=EE T h0 7 (by omega) (m:=3) (by decide);subst O;refine⟨kind,_,aw rfl (pre (aK t3 (aK t7 (aK t8 (aK UV (aK Tl (ay (aN [.str kind,.int day,.str Az] (bY (cK (x:=.lst ((["lost","found","death"]:LS).map .str)) (y:=.int (xs.getD 7 0 % 3)) (b1:=true) (b2:=false) (aN [.str "lost",.str "found",.str "death"] rfl (gA _ (by simp))) e7 e3) rfl) (cz _ (by simp)))))))))),Kt hd U kind ?_⟩;simp only[mem_cons,not_mem_nil,or_false]at UW;rcases UW with h|h|h
 ·exact .inr (.inl h)
 ·exact .inr (.inr h)
 ·exact .inl h
end
structure GR (af:List D):Prop where
 at_:∀(j:Nat) r,af[j]? = some r->qd j r/\ce r/\Aa r/\Rq j r
 off:(wx af).Nodup
def GR.snoc {af:LD}(g:GR af){r:D}(G:qd af.length r)(hk:ce r)(hw:Aa r)(hq:Rq af.length r)(M:bp r=false):GR (af++[r]):=by
 refine⟨λj q h=>?_,?_⟩
 ·by_cases hj:j<af.length
  ·rw[getElem?_append_left hj]at h;exact g.at_ j q h
  ·rw[getElem?_append_right (by omega)]at h;obtain⟨h1,h2⟩:=vV h;have:j=af.length:=by rw[length_singleton]at h1;omega
   subst this;simp only[Nat.sub_self,List.getElem_cons_zero]at h2;subst h2;exact⟨G,hk,hw,hq⟩
 ·rw[Er,M,if_neg (by decide),uQ];exact g.off
def GR.flat {af:LD}(g:GR af):bD af=true:=cf λd hd=>by
 obtain⟨j,hj⟩:=mem_iff_getElem?.mp hd;exact(g.at_ j d hj).2.1.flat
def king:D:=row 0 "root" [.str "king",.int (7:Nat),.int 3,.str "open"]
def ann:D:=row 0 "named" [.int (0:Nat),.str "king",.str "ann"]
def abbot:D:=row 0 "root" [.str "abbot",.int (3:Nat),.int 1,.str "first"]
def bob:D:=row 1 "named" [.int (1:Nat),.str "abbot",.str "bob"]
def Vp:fD ("rule" : Str)=false:=by decide +kernel
def HP {k:Nat}(hk:k=0∨k=2){m f:Nat}{rl:Str}(hp:ij ["office","matters","further","rule"] [.str (off k),.int m,.int f,.str rl]=true):qd k (row 0 "root" [.str (off k),.int m,.int f,.str rl]) :=
 ⟨0,_,_,rfl,by decide,by decide,⟨["office","matters","further","rule"],[],cC,rfl,oZ hp,by simp[oi,TC,NX,TD,Vp],by decide,by simp⟩,by simp,λd hd=>by
  simp only[mem_cons,not_mem_nil,or_false]at hd;rcases hd with rfl|rfl|rfl|rfl<;>exact⟨rfl,rfl⟩,.inl ⟨rfl,hk,_,rfl⟩⟩
def Dm (k:Nat){day:Nat}{o p:Str}(hd:day<=1)(hp:ij ["day","office","person"] [.int (day:Int),.str o,.str p]=true)(G:p∈P6):qd k (row day "named" [.int (day:Int),.str o,.str p]) :=
 ⟨day,_,_,rfl,by omega,by omega,HL ["day","office","person"] [p] cC rfl hp (by simp[oi,TC,HK,P4]) (by simpa using G) rfl (le_refl _)⟩
def Kx:GR [king,ann]:=by
 refine⟨λj r h=>?_,by decide +kernel⟩;match j,h with
 |0,h=>cases h;exact⟨HP (k:=0) (.inl rfl) (by decide +kernel),⟨_,_,_,rfl,.root _ _ 7 (by decide) _⟩,now 0 (by decide +kernel),.non _ (by decide +kernel)⟩
 |1,h=>cases h;exact⟨Dm 1 (day:=0) (by decide) (by decide +kernel) (by decide +kernel),⟨_,_,_,rfl,.named _ _ _⟩,now 0 (by decide +kernel),.non _ (by decide +kernel)⟩
def P9:GR [king,ann,abbot,bob]:=by
 refine⟨λj r h=>?_,by decide +kernel⟩;match j,h with
 |0,h=>exact Kx.at_ 0 r h
 |1,h=>exact Kx.at_ 1 r h
 |2,h=>cases h;exact⟨HP (k:=2) (.inr rfl) (by decide +kernel),⟨_,_,_,rfl,.root _ _ 3 (by decide) _⟩,now 0 (by decide +kernel),.non _ (by decide +kernel)⟩
 |3,h=>cases h;exact⟨Dm 3 (day:=1) (by decide) (by decide +kernel) (by decide +kernel),⟨_,_,_,rfl,.named _ _ _⟩,now 1 (by decide +kernel),.non _ (by decide +kernel)⟩
def Ky {af:LD}(g:GR af)(h2:2<=af.length)(T:af.length<=12)(a b d5:OB)(c:Int)(v5 v6 v7:OB):∃r u5 u6 u7,lD [a,b,lT af,d5,sI c,v5,v6,v7]=some (.nx [a,b,lT (af++[r]),d5,sI c,u5,u6,u7])/\GR (af++[r]):=by
 obtain⟨xs,ex,U,hx⟩:=oW c af.length 9 (by omega) (by decide);have G:8<=xs.length∨xs.length=6:=by omega
 have m0:=mod_lt (x:=xs.getD 0 0) (m:=10) (by decide);have m5:=mod_lt (x:=xs.getD 0 0 / 10) (m:=5) (by decide);have m4:=mod_lt (x:=xs.getD 0 0 / 50) (m:=4) (by decide);obtain⟨day,M⟩:∃d:Nat,xs.getD 0 0 % 10=d:=⟨(xs.getD 0 0 % 10).toNat,by omega⟩;obtain⟨t,Yu,Yv,et⟩:∃t:Int,0<=t/\t<=4/\bK (.lst [.int 0,.int 0,.int 0,.int (xs.getD 0 0 / 10 % 5)]) (.int (xs.getD 0 0 / 50 % 4))=sI t:=by
  have:xs.getD 0 0 / 50 % 4=0∨xs.getD 0 0 / 50 % 4=1∨xs.getD 0 0 / 50 % 4=2∨xs.getD 0 0 / 50 % 4=3:=by omega
  rcases this with h|h|h|h<;>rw[h]
  ·exact⟨0,by decide,by decide,rfl⟩
  ·exact⟨0,by decide,by decide,rfl⟩
  ·exact⟨0,by decide,by decide,rfl⟩
  ·exact⟨_,m5.1,by omega,rfl⟩
 obtain⟨kind,ax,ed,O⟩:=Kw U af.length ⟨by omega,T⟩ day (by omega);have gk:ce (row (day+t) kind ax):=⟨_,_,_,rfl,O.dd⟩;refine⟨row (day+t) kind ax,_,_,_,cG (ds:=xs.map .int) (aN [.int c,.int af.length,.int ((9:Nat):Int)] (bY rfl (bY (aN [.lst af] rfl (by simp)) rfl)) ex) (iV _) (jC (.int day) (M ▸ EE G rfl 0 (by omega) (by decide)) rfl (jC (.int (day+t)) (bX (.int day) (.int t) rfl (cK (x:=.lst [.int 0,.int 0,.int 0,.int (xs.getD 0 0 / 10 % 5)]) (y:=.int (xs.getD 0 0 / 50 % 4)) (b1:=true) (b2:=false) (aN [.int 0,.int 0,.int 0,.int (xs.getD 0 0 / 10 % 5)] (bY rfl (bY rfl (bY rfl (bY (im (RP G rfl 0 (by omega) (by decide) (by decide)) (by decide)) rfl)))) (gA _ (by simp))) (im (RP G rfl 0 (by omega) (by decide) (by decide)) (by decide)) et) rfl) rfl (oD (ds:=af) (d:=row (day+t) kind ax) (b:=false) rfl (aN [.int (day+t),.tup (.str kind::ax)] (bY rfl (bY (aN [.lst (xs.map .int),.int af.length,.int day] (bY rfl (bY (aN [.lst af] rfl (by simp)) rfl)) ed) rfl)) (cz _ (by simp))) gk.flat (cR (by omega))))),g.snoc ⟨_,_,_,rfl,by omega,by omega,O.g _ (by omega)⟩ gk (O.w _) (O.q _) O.nr⟩
def Kz (ns:LI):∃af:LD,rZ [.lst (ns.map .int)]=lT af/\GR af/\af.length<=13:=by
 obtain⟨M,e0⟩:=oV ns 0;obtain⟨c1,e1⟩:=oV ns 1;obtain⟨cs,Qv,XN⟩:∃cs:LI,cs.length<=9/\iR (ns.map .int) (some 2) (some 11)=cs.map .int:=by
  refine⟨(ns.drop (min 2 ns.length)).take (min 11 ns.length - min 2 ns.length),?_,?_⟩
  ·rw[length_take,length_drop];omega
  ·unfold iR;rw[kQ (by decide),kQ (by decide),vI,map_take,map_drop];rfl
 have O:∀R:LD,GR R->2<=R.length->R.length<=4->∃af,GR af/\af.length<=13/\(a8 (ba 3 (tT (am 0) (dI (fI 2)) (dI (fI 11))))
  (a8 (cN (aT (f2 dj (f2 cq (fA bZ (fV 0 (ag (fI 1) aj))) (fI 4)) (fI 1))) (ba 3 (f2 fw (am 3) (fA fy (ag (fA bZ (fV 0 (ag (fI 1) aj))) (ag (fI 92) (ag (f2 qL (fI 9) (fA dR (fV 3 aj))) aj)))))) aP)
  (a8 (Jf [3] (kx (bM (am 3)) (cU 4) lD))
  (hG 2)))) [sL (ns.map .int),sI M,lT R,none,none,none,none,none]=some (.rt (.lst af) true):=λR gR h2 h4=>by
  let E:LI->DL.Env:=λcs=>[sL (ns.map .int),sI M,lT R,lT (cs.map .int),none,none,none,none];obtain⟨G,XO,ec⟩:∃G:LI,G.length<=9/\cN (aT (f2 dj (f2 cq (fA bZ (fV 0 (ag (fI 1) aj))) (fI 4)) (fI 1))) (ba 3 (f2 fw (am 3) (fA fy (ag (fA bZ (fV 0 (ag (fI 1) aj))) (ag (fI 92) (ag (f2 qL (fI 9) (fA dR (fV 3 aj))) aj)))))) aP (E cs)=some (.nx (E G)):=by
   have ea:fA bZ (fV 0 (ag (fI 1) aj)) (E cs)=sI c1:=aN [.lst (ns.map .int),.int 1] rfl e1;have t:aT (f2 dj (f2 cq (fA bZ (fV 0 (ag (fI 1) aj))) (fI 4)) (fI 1)) (E cs)=some (decide (c1 % 4=1)):=dD (bX (.int (c1 % 4)) (.int 1) (im ea (by decide)) rfl (QC _ _));by_cases h:c1 % 4=1
   ·rw[Aq h]at t;obtain⟨xs,ex,UX,_⟩:=oW c1 92 (9 - cs.length) (by decide) (by omega);have es:f2 qL (fI 9) (fA dR (fV 3 aj)) (E cs)=sI ((9 - cs.length:Nat):Int):=bX (.int 9) (.int (cs.length:Int)) rfl (aN [.lst (cs.map .int)] rfl (by simp)) (by
     show some (D.int (9 - (cs.length:Int)),false)=_;rw[show(9:Int) - (cs.length:Int)=((9 - cs.length:Nat):Int) by omega])
    refine⟨cs++xs,by rw[uZ];omega,xK t ((qt (ds:=(cs++xs).map .int) (cK (x:=.lst (cs.map .int)) (y:=.lst (xs.map .int)) (b1:=false) (b2:=true) rfl (aN [.int c1,.int ((92:Nat):Int),.int ((9 - cs.length:Nat):Int)] (bY ea (bY rfl (bY es rfl))) ex) ?_) (iV _)).trans rfl)⟩;show(if(cs.map D.int).length+(xs.map D.int).length<=sizeLine then some (D.lst (cs.map D.int++xs.map D.int),true)else none)=_;rw[if_pos (eA (by simp;omega)),uW]
   ·rw[PK h]at t;exact⟨cs,Qv,nn t rfl⟩
  obtain⟨ρ',e,af,v4,v5,v6,v7,rfl,hr,gr⟩:=eZ (tg:=cU 4) (g:=lD) (λi ρ=>∃af v4 v5 v6 v7,ρ=[sL (ns.map .int),sI M,lT af,sL (G.map .int),v4,v5,v6,v7]/\af.length=R.length+i/\GR af) (G.map .int) [sL (ns.map .int),sI M,lT R,sL (G.map .int),none,none,none,none] ⟨R,none,none,none,none,rfl,rfl,gR⟩ (by
   rintro i d ρ hd ⟨af,v4,v5,v6,v7,rfl,hr,gr⟩;rw[vA]at hd;obtain⟨c,XQ,rfl⟩:=oY hd;have hi:=(vV XQ).1;obtain⟨r,u5,u6,u7,eb,XR⟩:=Ky gr (by omega) (by omega) (sL (ns.map .int)) (sI M) (sL (G.map .int)) c v5 v6 v7;exact⟨_,_,rfl,.inl eb,_,_,_,_,_,rfl,by rw[uZ,length_singleton,hr];omega,XR⟩)
  rw[vI]at hr;refine⟨af,gr,by omega,cG (ds:=cs.map .int) ?_ (iV _) (dP ec (dP (gI (ds:=G.map .int) rfl e) (lB rfl)))⟩;show some (D.lst (iR (ns.map .int) (some 2) (some 11)),true)=_;rw[XN]
 have t0:∀x,aT (f2 dj (f2 cq (am 1) (fI 3)) (fI 0)) [sL (ns.map .int),sI M,x,none,none,none,none,none]=some (decide (M % 3=0)):=λx=>dD (bX (.int (M % 3)) (.int 0) (im rfl (by decide)) rfl (QC _ _));have XS:bD [king,ann]=true:=Kx.flat;have U:∀ {T:FS}{res:Option Res},T [sL (ns.map .int),sI M,lT [king,ann],none,none,none,none,none]=res->_:=λ{T res} (hT:T [sL (ns.map .int),sI M,lT [king,ann],none,none,none,none,none]=res)=>jC (i:=1) (ρ:=[sL (ns.map .int),none,none,none,none,none,none,none]) (.int M) (aN [.lst (ns.map .int),.int 0] (fa:=fV 0 (ag (fI 0) aj)) rfl e0) rfl (cG (i:=2) (ds:=[king,ann]) (f:=fA cx (ag (fA aX (ag (fI 0) (ag (fA aX (ag (fS "root") (ag (fS "king") (ag (fI 7) (ag (fI 3) (ag (fS "open") aj)))))) aj))) (ag (fA aX (ag (fI 0) (ag (fA aX (ag (fS "named") (ag (fI 0) (ag (fS "king") (ag (fS "ann") aj))))) aj))) aj))) rfl XS hT);by_cases h:M % 3=0
 ·obtain⟨af,gr,hr,e⟩:=O _ P9 (by decide) (by decide);refine⟨af,aw rfl (U (dP (xK ((t0 _).trans (by rw[Aq h])) (qt (ds:=[king,ann,abbot,bob]) rfl P9.flat)) e)),gr,hr⟩
 ·obtain⟨af,gr,hr,e⟩:=O _ Kx (by decide) (by decide);exact⟨af,aw rfl (U (aK ((t0 _).trans (by rw[PK h])) e)),gr,hr⟩
def K0 {ρ:DL.Env}{i:Nat}{d:D}{g:FS}(h:ρ[i]? = some (sF d)):Jf [i] g ρ=g ρ:=by
 show g (unown1 ρ i)=_;unfold unown1;rw[h]
def No (af:LD)(n:Nat):D:=((gz [.tup af,.int n]).map (·.1)).getD .non
def wV (af:LD)(ae:Int)(n:Nat):D:=((lE [.tup af,.int ae,.int n]).map (·.1)).getD .non
def jV (af:LD)(ae:Int)(n:Nat):D:=.tup [.int n,No af n,wV af ae n]
def GR.k (G:GR af):∀r∈af,ce r:=λr h=>by obtain⟨j,hj⟩:=mem_iff_getElem?.mp h;exact(G.at_ j r hj).2.1
def GR.w (G:GR af):∀r∈af,Aa r:=λr h=>by obtain⟨j,hj⟩:=mem_iff_getElem?.mp h;exact(G.at_ j r hj).2.2.1
def GR.q (G:GR af):∀j r,af[j]? = some r->Rq j r:=λj r h=>(G.at_ j r h).2.2.2
def GR.n (G:GR af)(ae:Int):((bV (av af ae)).map (aV 0)).Nodup:=G.off.sublist (Hw af ae)
def Dn {af:LD}(G:af.length<=13)(ae:Int):(dn (av af ae)).length<=60:=by
 unfold dn;rw[(bH _ _).length_eq];exact vR (vM _ _) (vR (cD af ae) (by omega))
section
variable {af:LD}(gr:GR af) (hr:af.length<=13) (ae day:Int)
include gr hr
theorem pb {n:Nat}(h:n∈ia af ae day):n<af.length/\gz [.tup af,.int n]=some (No af n,false)/\nM [.lst af,.int n]=some (No af n,false)/\lE [.tup af,.int ae,.int n]=some (wV af ae n,false)/\bC (jV af ae n)=true/\aH 30 (jV af ae n)=true/\gX (wV af ae n) = "tuple"/\xi (wV af ae n)=false:=by
 obtain⟨hn,w,hw,O,e2⟩:=E1 gr.k gr.w (by omega) ae h;obtain⟨v,⟨g1,U,ds,rfl⟩,T⟩:=HD gr.q gr.k (by omega) ae hn;have M:No af n=w:=by unfold No;rw[O];rfl
 have G:wV af ae n=.tup ds:=by unfold wV;rw[T];rfl
 refine⟨hn,by rw[M];exact O,by rw[M];exact e2,by rw[G];exact T,?_,?_,by rw[G];rfl,by rw[G];rfl⟩
 ·unfold jV;rw[M,G];have g1:bD ds=true:=g1;rcases hw with rfl|⟨s,rfl⟩<;>simp[g1]
 ·unfold jV;rw[M,G];have:aH 29 (.tup ds)=true:=g9 20 29 _ (by decide) U;rw[aH,all_cons,all_cons,all_cons,all_nil,this];rcases hw with rfl|⟨s,rfl⟩<;>simp only[aH,Bool.and_true]
theorem An:(ia af ae day).length<=60:=by
 unfold ia;have:(jd (gD af ae day)).length<=60:=by unfold jd;rw[(bH _ _).length_eq];exact lI (by omega) ae day
 exact vR (vM _ _) (vR (vM _ _) this)
theorem E6:nL [.tup af,.int ae,.int day]=lT ((ia af ae day).map (jV af ae)):=by
 refine aw rfl (ay (px (fi:=bM (fA gy (fV 0 (fV 1 (fV 2 aj))))) (nT:=1) (cap:=[0,1]) (tg:=cU 0) (ρ:=[sT af,sI ae,sI day]) (ia af ae day) (λ(n:Nat)=>.int (n:Int)) (jV af ae) ?_ (vR (An gr hr ae day) (by decide)) λn hn=>?_))
 ·show(fA gy _ _).bind _=_;rw[aN [.tup af,.int ae,.int day] rfl (tM gr.k gr.w (by omega) ae (gr.n ae) (Dn hr ae) day)];rfl
 ·obtain⟨_,G,_,M,_⟩:=pb gr hr ae day hn;exact⟨[sI n,sT af,sI ae],rfl,false,aN [.int n,No af n,wV af ae n] (bY rfl (bY (aN [.tup af,.int n] rfl G) (bY (aN [.tup af,.int ae,.int n] rfl M) rfl))) (cz _ (by simp))⟩
noncomputable abbrev rE (af:LD)(ae day:Int)(F G:LD)(M O:OB):DL.Env:=[sT af,sL af,sI ae,sI day,lT F,lT G,M,O]
def PB:FT:=dQ (bU (aT (fA bi (fV 7 (ag (fC (.ty "tuple")) aj))))) (dQ (aT (fA bi (ag (cj 7 0) (ag (fC (.ty "bool")) aj)))) (bU (aT (fA bi (ag (cj 7 2) (ag (fC (.ty "tuple")) aj))))))
theorem HQ (F G:LD)(M:OB):∀(l:LN),(∀n∈l,n∈ia af ae day)->∀O,∃T,zj 7 PB (l.map (jV af ae)) (rE af ae day F G M O)=some (rE af ae day F G M T)
 |[],_,O=>⟨O,rfl⟩
 |n::l,h,O=>by
  obtain⟨_,_,_,_,_,_,U,h8⟩:=pb gr hr ae day (h n (mX ..));obtain⟨T,e⟩:=HQ F G M l (λm hm=>h m (mZ _ hm)) (some (jV af ae n,false));refine⟨T,?_⟩;have t:PB (rE af ae day F G M (some (jV af ae n,false)))=some false:=(ee (p:=false) (q:=false) (bN (p:=true) (dD (aN [jV af ae n,.ty "tuple"] rfl rfl))) λ_=>ee (p:=false) (q:=false) (dD (aN [.int n,.ty "bool"] (bY (bX (jV af ae n) (.int 0) rfl rfl (by simp[jV,Ig])) rfl) rfl)) λ_=>bN (p:=true) (dD (aN [wV af ae n,.ty "tuple"] (bY (bX (jV af ae n) (.int 2) rfl rfl (by simp[jV,RF])) rfl) (by
   show(if xi (wV af ae n)=true then none else xj (gX (wV af ae n)) "tuple")=_;rw[U,h8];rfl)))).trans rfl
  rw[uY,zj];show(match PB (rE af ae day F G M (some (jV af ae n,false))) with|some false=>_|_=>_)=_;rw[t];exact e
theorem HR:oJ [.tup af,.lst af,.int ae,.int day]=sO true:=by
 have hj:=E6 gr hr ae day;obtain⟨L,U⟩:∃L,ia af ae day=L:=⟨_,rfl⟩;have KA:bD (L.map (jV af ae))=true:=cf λd hd=>by obtain⟨n,hn,rfl⟩:=vO hd;exact(pb gr hr ae day (U ▸ hn)).2.2.2.2.1
 have T:aH 40 (.lst (L.map (jV af ae)))=true:=by
  show((L.map (jV af ae)).all (aH 39))=true;rw[all_eq_true];intro d hd;obtain⟨n,hn,rfl⟩:=vO hd;exact g9 30 39 _ (by decide) (pb gr hr ae day (U ▸ hn)).2.2.2.2.2.1
 have lu:L.length<=60:=U ▸ An gr hr ae day;have M:=B1 (af:=af) ae day λn hn=>(pb gr hr ae day hn).1;rw[U]at hj M;obtain⟨ρ',e,u6,rfl⟩:=rK (tg:=cU 6) (g:=sJ) af.length (λi ρ=>∃u6,ρ=rE af ae day (L.map (jV af ae)) (((List.range i).filter λn=>decide (n∈L)).map (jV af ae)) u6 none) (rE af ae day (L.map (jV af ae)) [] none none) ⟨_,rfl⟩ (by
  rintro i ρ hi ⟨u6,rfl⟩;have eh:=HB gr.k gr.w (by omega) ae (gr.n ae) (Dn hr ae) day i;rw[U]at eh;let E:LD->DL.Env:=λG=>rE af ae day (L.map (jV af ae)) G (sI i) none;have t:∀G,aT (RC nJ (fV 0 (fV 2 (fV 3 (fV 6 aj))))) (E G)=some (decide (i∈L)):=λG=>dD (by show nJ [.tup af,.int ae,.int day,.int i,.non]=_;exact eh);rw[List.range_succ,filter_append,uW];by_cases O:i∈L
  ·obtain⟨_,e1,e2,e3,e4,_⟩:=pb gr hr ae day (U ▸ O);refine⟨_,_,rfl,.inl (xK ((t _).trans (by rw[Aq O])) (oD (d:=jV af ae i) (b:=false) rfl (aN [.int i,No af i,wV af ae i] (bY rfl (bY (aN [.lst af,.int i] rfl e2) (bY (aN [.tup af,.int ae,.int i] rfl e3) rfl))) (cz _ (by simp))) e4 (cR ?_))),sI i,?_⟩
   ·rw[vI];exact vR (vM _ _) (by rw[length_range];omega)
   ·rw[List.filter_cons_of_pos (by exact Aq O)];rfl
  ·refine⟨_,_,rfl,.inl (nn ((t _).trans (by rw[PK O])) rfl),sI i,?_⟩;rw[List.filter_cons_of_neg (by rw[PK O];decide),List.filter_nil,map_nil,uQ];rfl)
 rw[M]at e;obtain⟨u7,e7⟩:=HQ gr hr ae day (L.map (jV af ae)) (L.map (jV af ae)) u6 L (λn hn=>U ▸ hn) none;have g7:zk 4 7 PB (rE af ae day (L.map (jV af ae)) (L.map (jV af ae)) u6 none)=some (.nx (rE af ae day (L.map (jV af ae)) (L.map (jV af ae)) u6 u7)):=by
  show(if 7≠4/\7<8 then (zj 7 PB (L.map (jV af ae)) (rE af ae day (L.map (jV af ae)) (L.map (jV af ae)) u6 none)).map Res.nx else none)=_;rw[if_pos (by decide),e7];rfl
 have Tn:dj (.lst (L.map (jV af ae))) (.lst (L.map (jV af ae)))=sO true:=by
  unfold dj;rw[if_pos ⟨T,T⟩,nN 40 _ T]
 refine aw rfl (cG (ds:=L.map (jV af ae)) (aN [.tup af,.int ae,.int day] rfl hj) KA (cG (ds:=[]) (aN [] rfl (gA _ (by simp))) rfl (dP (rP (oE (j:=af.length) (b:=false) (aN [.lst af] rfl (by simp)) (by omega)) e) (aK ((ee (p:=false) (q:=false) (bN (p:=true) (dD (aN [.lst (L.map (jV af ae)),.ty "list"] rfl rfl))) λ_=>dD (bX (.lst (L.map (jV af ae))) (.lst (L.map (jV af ae))) rfl rfl (Hu T))).trans rfl) (dP g7 (Ll (ds:=L.map (jV af ae)) (d:=.tup []) (b:=false) rfl (aN [] rfl (cz _ (by simp))) rfl (cR (by rw[vI];omega)) (ay (cK (x:=.lst (L.map (jV af ae))) (y:=.lst (L.map (jV af ae))) (b1:=true) (b2:=false) (aN [.tup af,.int ae,.int day] rfl hj) rfl Tn))))))))
end
section
variable {af:LD}(gr:GR af) (hr:af.length<=13) (ns xs:LI) (UX:xs.length=6)
include gr hr UX
theorem PD (ae:Int)(O:OB):∃G,Bn [sL (ns.map .int),lT af,sT af,sL (xs.map .int),sI ae,O]=some (.nx [sL (ns.map .int),lT af,sT af,sL (xs.map .int),sI ae,G]):=by
 have M:8<=xs.length∨xs.length=6:=by omega
 obtain⟨ρ',e,G,rfl⟩:=eZ (tg:=cU 5) (g:=GG) (λi ρ=>∃G,ρ=[sL (ns.map .int),lT af,sT af,sL (xs.map .int),sI ae,G]) [.int (xs.getD 1 0 % 6),.int (5+xs.getD 2 0 % 14)] [sL (ns.map .int),lT af,sT af,sL (xs.map .int),sI ae,O] ⟨_,rfl⟩ (by
  rintro i d ρ hd ⟨G,rfl⟩;obtain⟨day,rfl⟩:∃day:Int,d=.int day:=by
   have:=vL hd;simp only[mem_cons,not_mem_nil,or_false]at this;rcases this with h|h<;>exact⟨_,h⟩
  exact⟨_,_,rfl,.inl (nn (bN (p:=true) (dD (aN [.tup af,.lst af,.int ae,.int day] rfl (HR gr hr ae day)))) rfl),_,rfl⟩)
 refine⟨_,(K0 rfl).trans (gI (ds:=[.int (xs.getD 1 0 % 6),.int (5+xs.getD 2 0 % 14)]) ?_ e)⟩;have T:fA cx (ag (f2 cq (cj 3 1) (fI 6)) (ag (f2 fw (fI 5) (f2 cq (cj 3 2) (fI 14))) aj)) (gU [sL (ns.map .int),lT af,sT af,sL (xs.map .int),sI ae,O])=lT [.int (xs.getD 1 0 % 6),.int (5+xs.getD 2 0 % 14)]:=aN [.int (xs.getD 1 0 % 6),.int (5+xs.getD 2 0 % 14)] (bY (EE (b:=false) M rfl 1 (by omega) (by decide)) (bY (bX (.int 5) (.int (xs.getD 2 0 % 14)) rfl (EE (b:=false) M rfl 2 (by omega) (by decide)) rfl) rfl)) (gA _ (by simp));show(fA cx _ _).bind _=_;rw[T];rfl
end
def law_true (ns:LI)(Nx:ns.length<=63):∃b,F_law [.lst (ns.map .int)]=some (.bl true,b):=by
 obtain⟨af,er,G,hr⟩:=Kz ns;obtain⟨c1,e1⟩:=oV ns 1;obtain⟨xs,ex,T,hx⟩:=oW c1 60 6 (by decide) (by decide);have U:8<=xs.length∨xs.length=6:=by omega
 have M:=Ak (af:=af) ⟨by omega,λj r h=>(G.at_ j r h).1⟩ G.flat (.lst af) (.inl rfl);obtain⟨ρ',e,u4,O,rfl⟩:=eZ (tg:=cU 4) (g:=Bn) (λi ρ=>∃u4 O,ρ=[sL (ns.map .int),lT af,sT af,sL (xs.map .int),u4,O]) [.int 9999,.int (xs.getD 0 0 % 12)] [sL (ns.map .int),lT af,sT af,sL (xs.map .int),none,none] ⟨_,_,rfl⟩ (by
  rintro i d ρ hd ⟨u4,O,rfl⟩;obtain⟨ae,rfl⟩:∃ae:Int,d=.int ae:=by
   have:=vL hd;simp only[mem_cons,not_mem_nil,or_false]at this;rcases this with h|h<;>exact⟨_,h⟩
  obtain⟨w5,eb⟩:=PD G hr ns xs T ae O;exact⟨_,_,rfl,.inl eb,_,_,rfl⟩)
 have el:fA cx (ag (fI 9999) (ag (f2 cq (cj 3 0) (fI 12)) aj)) (gU [sL (ns.map .int),lT af,sT af,sL (xs.map .int),none,none])=lT [.int 9999,.int (xs.getD 0 0 % 12)]:=aN [.int 9999,.int (xs.getD 0 0 % 12)] (bY rfl (bY (EE (b:=false) U rfl 0 (by omega) (by decide)) rfl)) (gA _ (by simp));refine⟨false,aw rfl (cG (ds:=af) (aN [.lst (ns.map .int)] rfl er) G.flat (jC (.tup af) (aN [.lst af] rfl M) (by simp[G.flat]) (cG (ds:=xs.map .int) (aN [.int c1,.int ((60:Nat):Int),.int ((6:Nat):Int)] (bY (aN [.lst (ns.map .int),.int 1] rfl e1) rfl) ex) (iV _) (dP (gI (ds:=[.int 9999,.int (xs.getD 0 0 % 12)]) ?_ e) (ay rfl)))))⟩;show bM (fA cx (ag (fI 9999) (ag (f2 cq (cj 3 0) (fI 12)) aj))) (gU [sL (ns.map .int),lT af,sT af,sL (xs.map .int),none,none])=_;unfold bM;rw[el];rfl
end Lw
namespace Lw
open PySem PySem.Spec PyProof.Rows L2 DL
def Np {a b:Expr}{G:Pos}:mE (.Subscript a b G):=by intro _ _;rfl
noncomputable def cM (i:Nat):Stmt:=PySem.Challenge.pw_sealchain_k42_what_is_judged.main.body.getD i (.Pass ⟨0,0,0,0⟩)
section
variable {X:Cx}{es Sy:QD}{f:FE}{g:FA}{pos:Pos}{k:Nat}
def qe {c:Const}(h:JE X (.Constant c k pos) f)(G:JA X es g):JA X (.Constant c k pos::es) (ag f g):=ai h G
def Ao (h:JE X (.Tuple Sy k pos) f)(G:JA X es g):JA X (.Tuple Sy k pos::es) (ag f g):=ai h G
end
structure Tx (w:World)(K:Frag)(mg:Str->Option Value):Prop where
 hX:∃h,K.In h/\h.Ns mainGlobals mg
 d0:c6 K "is_whole" (cM 6)
 d1:c6 K "is_day" (cM 7)
 d2:c6 K "is_stretch" (cM 8)
 d3:c6 K "is_matters" (cM 12)
 d4:c6 K "is_name" (cM 22)
 d5:c6 K "is_rule" (cM 24)
 d6:c6 K "is_piece" (cM 23)
 d7:c6 K "is_pieces" (cM 25)
 d8:c6 K "is_change" (cM 26)
 d9:c6 K "is_changes" (cM 27)
 d10:c6 K "is_part" (cM 28)
 d11:c6 K "is_deed" (cM 29)
 d12:c6 K "word_of" (cM 32)
 d13:c6 K "part_of" (cM 33)
 d14:c6 K "day_of" (cM 34)
 d15:c6 K "is_timely" (cM 30)
 d16:c6 K "is_row" (cM 31)
 d17:c6 K "root_offices" (cM 39)
 d18:c6 K "is_second_root" (cM 40)
 d19:c6 K "parts_in" (cM 35)
 d20:c6 K "people_in" (cM 36)
 d21:c6 K "count_people" (cM 41)
 d22:c6 K "is_refused" (cM 42)
 d23:c6 K "register_of" (cM 43)
 d24:c6 K "_law_cell_at" (cM 103)
 d25:c6 K "_law_stream" (cM 104)
 d26:c6 K "_law_stretch" (cM 105)
 d27:c6 K "_law_deed" (cM 106)
 d28:c6 K "_law_rows" (cM 107)
 d29:c6 K "is_known" (cM 45)
 d30:c6 K "is_paper" (cM 74)
 d31:c6 K "changed" (cM 94)
 d32:c6 K "put_together" (cM 95)
 d33:c6 K "words" (cM 96)
 d34:c6 K "lies_in" (cM 9)
 d35:c6 K "heard" (cM 44)
 d36:c6 K "rank" (cM 46)
 d37:c6 K "in_order" (cM 48)
 d38:c6 K "by_office" (cM 60)
 d39:c6 K "roots" (cM 49)
 d40:c6 K "tells" (cM 52)
 d41:c6 K "told_of" (cM 53)
 d42:c6 K "lives" (cM 54)
 d43:c6 K "has_seal" (cM 55)
 d44:c6 K "is_sound" (cM 56)
 d45:c6 K "is_alive" (cM 58)
 d46:c6 K "by_since" (cM 59)
 d47:c6 K "chief_of" (cM 61)
 d48:c6 K "holder_by" (cM 62)
 d49:c6 K "is_held_by" (cM 63)
 d50:c6 K "is_first_death" (cM 64)
 d51:c6 K "counts" (cM 65)
 d52:c6 K "new_claim" (cM 66)
 d53:c6 K "ended" (cM 67)
 d54:c6 K "inherited" (cM 69)
 d55:c6 K "after_death" (cM 70)
 d56:c6 K "claims" (cM 71)
 d57:c6 K "is_leave" (cM 75)
 d58:c6 K "is_borne" (cM 76)
 d59:c6 K "covers" (cM 13)
 d60:c6 K "reach_bar" (cM 80)
 d61:c6 K "office_bar" (cM 81)
 d62:c6 K "office_bases" (cM 84)
 d63:c6 K "ends_within" (cM 11)
 d64:c6 K "is_within" (cM 10)
 d65:c6 K "is_ahead" (cM 47)
 d66:c6 K "leave_bar" (cM 82)
 d67:c6 K "leaves_to" (cM 83)
 d68:c6 K "leave_bases" (cM 85)
 d69:c6 K "copy_bases" (cM 86)
 d70:c6 K "bases_by" (cM 87)
 d71:c6 K "may_call" (cM 77)
 d72:c6 K "calls_in" (cM 78)
 d73:c6 K "calls_by" (cM 79)
 d74:c6 K "is_fit" (cM 88)
 d75:c6 K "links" (cM 89)
 d76:c6 K "bears" (cM 90)
 d77:c6 K "stood" (cM 91)
 d78:c6 K "standing" (cM 92)
 d79:c6 K "paper_behind" (cM 97)
 d80:c6 K "holding" (cM 98)
 d81:c6 K "whom_of" (cM 99)
 d82:JB K "holds" (cM 100)
 d83:c6 K "judged" (cM 101)
 d84:c6 K "_law_whom" (cM 108)
 d85:c6 K "_law_right" (cM 109)
 d86:c6 K "law" (cM 110)
 n0:mg "all" = none
 n1:mg "any" = none
 n2:mg "bool" = none
 n3:mg "dict" = none
 n4:mg "enumerate" = none
 n5:mg "int" = none
 n6:mg "isinstance" = none
 n7:mg "len" = none
 n8:mg "list" = none
 n9:mg "max" = none
 n10:mg "min" = none
 n11:mg "range" = none
 n12:mg "reversed" = none
 n13:mg "set" = none
 n14:mg "sorted" = none
 n15:mg "str" = none
 n16:mg "tuple" = none
 n17:mg "zip" = none
 k0:KC K mg "ALL_MATTERS" lQ
 k1:KC K mg "LAST_DAY" rR
 k2:KC K mg "MOST_FURTHER" kR
 k3:KC K mg "MOST_LETTERS" kT
 k4:KC K mg "MOST_PEOPLE" lR
 k5:KC K mg "MOST_PIECES" jk
 k6:KC K mg "MOST_ROWS" iW
 k7:KC K mg "PAPERS" zr
 k8:KD w K mg "PARTS" bQ
 k9:KC K mg "PERSON_PARTS" eB
 k10:KC K mg "RULES" C6
 k11:KC K mg "SEALINGS" iE
 l37:Bb K "in_order"
 l43:Bb K "has_seal"
 l50:Bb K "is_first_death"
 l70:Bb K "bases_by"
section
variable {P:Program}{w:World}{K:Frag}{mg:SV}{base:Heap}(T:Tx w K mg)
include T
theorem f0:Fn P w K mg base 1 "is_whole" gg:=T.d0.fq T.hX rS ["thing","least","most"] 3 λnd G hu=>
  (aO (du (aF b9 T.n6 bx (aJ 0 (ai (gL T.n5 OV) ao))) (du (Mu (aF b9 T.n6 bx (aJ 0 (ai (gL T.n2 Fy) ao)))) (c9 (qJ hV hV (ak 1) (ak 0) (ak 2))))))
theorem f1:Fn P w K mg base 2 "is_day" iF:=T.d1.fq T.hX zt ["thing"] 1 λnd G hu=>
  (aO (aU (f0 T) G (aJ 0 (eP (ai (de T.k1) ao)))))
theorem f2:Fn P w K mg base 3 "is_stretch" nq:=T.d2.fq T.hX np ["thing"] 1 λnd G hu=>
  (aq (bw (fP (dG (bS (bo (aF b9 T.n6 bx (aJ 0 (ai (gL T.n16 gG) ao))))) (dG (aC (xc hu) (aF eW T.n7 eM (aJ 0 ao)) aA) (dr (bS (bo (aU (f1 T) G (ai (aW 0) ao)))))))) cZ)
   (aO (qK (bP xh (aW 0) da) (c9 (du (aU (f1 T) G (ai (aW 0) ao)) (c9 (bP kB (aW 0) (aW 0))))))))
theorem f3:Fn P w K mg base 2 "is_matters" nv:=T.d3.fq T.hX nu ["thing"] 1 λnd G hu=>
  (aO (aU (f0 T) G (aJ 0 (eP (ai (de T.k0) ao)))))
theorem f4:Fn P w K mg base 1 "is_name" lC:=T.d4.fq T.hX vy ["thing"] 1 λnd G hu=>
  (aq (bw (fP (dG (bS (bo (aF b9 T.n6 bx (aJ 0 (ai (gL T.n15 Fz) ao))))) (dr (bS (yw hV hV aA (aF eW T.n7 eM (aJ 0 ao)) (de T.k3)))))) cZ)
   (aO (aF yC T.n0 yA (ai (fE ["sign"] (bL (ak 0)) fY (qJ hV hV a7 (ak 0) a7)) ao))))
theorem f5:Fn P w K mg base 1 "is_rule" v0:=T.d5.fq T.hX vz ["thing"] 1 λnd G hu=>
  (aO (du (aF b9 T.n6 bx (aJ 0 (ai (gL T.n15 Fz) ao))) (c9 (bP uA (ak 0) (de T.k10)))))
theorem f6:Fn P w K mg base 2 "is_piece" mr:=T.d6.fq T.hX rT ["thing"] 1 λnd G hu=>
  (aO (a0 (f4 T) G))
theorem f7:Fn P w K mg base 3 "is_pieces" p0:=T.d7.fq T.hX pz ["thing"] 1 λnd G hu=>
  (aq (bw (fP (dG (bS (bo (aF b9 T.n6 bx (aJ 0 (ai (gL T.n16 gG) ao))))) (dr (bS (yw hV hV aA (aF eW T.n7 eM (aJ 0 ao)) (de T.k5)))))) cZ)
   (aO (aF yC T.n0 yA (ai (fE ["piece"] (bL (ak 0)) fY (a0 (f6 T) G)) ao))))
theorem f8:Fn P w K mg base 3 "is_change" p5:=T.d8.fq T.hX p4 ["thing"] 1 λnd G hu=>
  (aq (bw (fP (dG (bS (bo (aF b9 T.n6 bx (aJ 0 (ai (gL T.n16 gG) ao))))) (dr (aC (xc hu) (aF eW T.n7 eM (aJ 0 ao)) aA)))) cZ)
   (aO (du (aU (f0 T) G (ai (aW 0) (eP (ai (bg yx (de T.k5) aA) ao)))) (c9 (aU (f6 T) G (ai (aW 0) ao))))))
theorem f9:Fn P w K mg base 4 "is_changes" ny:=T.d9.fq T.hX nw ["thing","places"] 1 λnd G hu=>
  (aq (bw (fP (dG (bS (bo (aF b9 T.n6 bx (aJ 0 (ai (gL T.n16 gG) ao))))) (dr (bS (bo (aF yC T.n0 yA (ai (fE ["change"] (bL (ak 0)) fY (a0 (f8 T) G)) ao))))))) cZ)
   (aq (lP ["change"] nd (bL (ak 0)) fY (aW 0))
   (aO (aF yC T.n0 yA (ai (fE ["place","later"] (FJ T.n17 (ak 1) (eX (ak 1) (fG aA) ig)) fY (bP kB (ak 0) (ak 1))) ao)))))
theorem f10:Fn P w K mg base 5 "is_part" ir:=T.d10.fq T.hX wa ["part","thing"] 2 λnd G hu=>
  (aq (bw (fP (dG (aC (cr hu) (ak 0) a7) (dr (aC (cr hu) (ak 0) a7)))) (a0 (f1 T) G))
   (aq (bw (fP (dG (aC (cr hu) (ak 0) a7) (dG (aC (cr hu) (ak 0) a7) (dr (aC (cr hu) (ak 0) a7))))) (a0 (f4 T) G))
   (aq (bw (aC (cr hu) (ak 0) a7) (qK (bP xh (ak 1) da) (c9 (a0 (f4 T) G))))
   (aq (bw (aC (cr hu) (ak 0) a7) (a0 (f3 T) G))
   (aq (bw (aC (cr hu) (ak 0) a7) (a0 (f2 T) G))
   (aq (bw (aC (cr hu) (ak 0) a7) (aU (f0 T) G (aJ 1 (eP (ai (de T.k2) ao)))))
   (aq (bw (aC (cr hu) (ak 0) a7) (a0 (f5 T) G))
   (aq (bw (aC (cr hu) (ak 0) a7) (aU (f0 T) G (aJ 1 (eP (ai (bg yx (de T.k6) aA) ao)))))
   (aq (bw (aC (cr hu) (ak 0) a7) (a0 (f7 T) G))
   (aO (a0 (f9 T) G)))))))))))
theorem f11:Fn P w K mg base 6 "is_deed" oF:=T.d11.fq T.hX wb ["thing"] 1 λnd G hu=>
  (aq (bw (fP (dG (bS (bo (aF b9 T.n6 bx (aJ 0 (ai (gL T.n16 gG) ao))))) (dG (aC (cr hu) (aF eW T.n7 eM (aJ 0 ao)) aA) (dr (bS (bo (aF b9 T.n6 bx (ai (aW 0) (ai (gL T.n15 Fz) ao))))))))) cZ)
   (aq (bw (fP (dG (DT T.k8 (aW 0)) (dr (aC (xc hu) (aF eW T.n7 eM (aJ 0 ao)) (bg dv aA (aF eW T.n7 eM (ai (xo T.k8 (aW 0)) ao))))))) cZ)
   (aO (aF yC T.n0 yA (ai (fE ["part","value"] (FJ T.n17 (xo T.k8 (aW 0)) (eX (ak 0) (fG aA) ig)) fY (a0 (f10 T) G)) ao)))))
theorem qg:Fn P w K mg base 1 "word_of" a9:=T.d12.fq T.hX wc ["row"] 1 λnd G hu=>
  (aO (bd (aW 0) aA))
theorem jt:Fn P w K mg base 2 "part_of" au:=T.d13.fq T.hX we ["row","part"] 2 λnd G hu=>
  (aO (bd (aW 0) (bg dv aA (Jo T.k8 (a0 (qg T) G) (ak 1)))))
theorem Ax:Fn P w K mg base 3 "day_of" aQ:=T.d14.fq T.hX zu ["row"] 1 λnd G hu=>
  (aq (bw (aC (cr hu) (a0 (qg T) G) a7) da)
   (aO (a0 (jt T) G)))
theorem Vq:Fn P w K mg base 4 "is_timely" kU:=T.d15.fq T.hX p6 ["row","day"] 1 λnd G hu=>
  (aq (aI nd (a0 (Ax T) G))
   (aq (bw (aC xh (ak 1) da) cZ)
   (aq (bw (fP (jG (aC (cr hu) (a0 (qg T) G) a7) (ib (aC kB (a0 (jt T) G) (ak 1))))) cZ)
   (aO (bP hV (ak 1) (aW 0))))))
theorem Vr:Fn P w K mg base 7 "is_row" rV:=T.d16.fq T.hX zv ["thing"] 1 λnd G hu=>
  (aq (bw (fP (dG (bS (bo (aF b9 T.n6 bx (aJ 0 (ai (gL T.n16 gG) ao))))) (dr (aC (xc hu) (aF eW T.n7 eM (aJ 0 ao)) aA)))) cZ)
   (aO (du (aU (f1 T) G (ai (aW 0) ao)) (du (aU (f11 T) G (ai (aW 0) ao)) (c9 (a0 (Vq T) G))))))
theorem Vs:Fn P w K mg base 3 "root_offices" iG:=T.d17.fq T.hX kW ["rows"] 1 λnd G hu=>
  (aO (fE ["row"] (bL (ak 0)) (dY (aC (cr hu) (a0 (qg T) G) a7)) (a0 (jt T) G)))
theorem Vt:Fn P w K mg base 4 "is_second_root" gh:=T.d18.fq T.hX j8 ["ahead","row"] 2 λnd G hu=>
  (aO (du (bP (cr hu) (a0 (qg T) G) a7) (c9 (bP uA (a0 (jt T) G) (a0 (Vs T) G)))))
theorem Vu:Fn P w K mg base 2 "parts_in" gm:=T.d19.fq T.hX rW ["row"] 1 λnd G hu=>
  (aO (Bh rfl T.n8 T.n17 (xo T.k8 (a0 (qg T) G)) (eX (aW 0) (fG aA) ig)))
theorem Vv:Fn P w K mg base 3 "people_in" gO:=T.d20.fq T.hX p7 ["row","names"] 1 λnd G hu=>
  (aq (lP ["part","value"] nd (bL (a0 (Vu T) G)) (dY (fP (jG (aC uA (ak 0) (de T.k9)) (ib (aC ql (ak 1) da))))) (ak 1))
   (aO (mm rfl T.n14 T.n13 (ak 1))))
theorem Vw:Fn P w K mg base 4 "count_people" iH:=T.d21.fq T.hX kX ["rows","names","row"] 1 λnd G hu=>
  (aq (aI nd (cP ao))
   (aq (kM (bL (ak 0)) (Av 2 nd) dF (bj (M6 (i:=1) (a0 (Vv T) G))))
   (aO (DR rfl T.n7 T.n13 (ak 1)))))
theorem Vx:Fn P w K mg base 8 "is_refused" jQ:=T.d22.fq T.hX nA ["book","place"] 2 λnd G hu=>
  (aq (bw (fP (dG (aC OR (ak 1) (de T.k6)) (dr (bS (bo (aU (Vr T) G (ai (bd (ak 0) (ak 1)) ao))))))) cZ)
   (aO (qK (aU (Vt T) G (ai (eX (ak 0) ig (fG (ak 1))) (ai (bd (ak 0) (ak 1)) ao))) (c9 (bP DB (aU (Vw T) G (ai (eX (ak 0) ig (fG (bg dv (ak 1) aA))) ao)) (de T.k4))))))
theorem Vy:Fn P w K mg base 9 "register_of" jl:=T.d23.fq T.hX lS ["rows","book","place"] 1 λnd G hu=>
  (aq (hU (bS (bo (aF DV T.n6 bx (aJ 0 (ai (bc (ai (gL T.n8 AK) (ai (gL T.n16 gG) ao))) ao))))) (bj yI) gW)
   (aq (aI nd (u9 Jg T.n16 gG (aJ 0 ao)))
   (aq (G8 (qS T.n11 (aF eW T.n7 eM (aJ 1 ao))) (Av 2 nd) dF (bj (hU (bo (a0 (Vx T) G)) (bj yI) gW)))
   (bj (iU 1)))))
theorem QE:Fn P w K mg base 1 "_law_cell_at" bZ:=T.d24.fq T.hX p8 ["_law_script","_law_k"] 2 λnd G hu=>
  (aq (bw (aC kB (ak 1) (aF eW T.n7 eM (aJ 0 ao))) (bd (ak 0) (ak 1)))
   (aO aA))
theorem RS:Fn P w K mg base 1 "_law_stream" fy:=T.d25.fq T.hX rX ["_law_cell","_law_salt","_law_many","_law_found","_law_number","_law_k"] 3 λnd G hu=>
  (aq (aI nd (cP ao))
   (aq (aI nd (bg dH (bg dv (bg dv (bg qP (bg dH (ak 0) aA) aA) (bg qP (bg qP (ak 1) (ak 1)) aA)) aA) aA))
   (aq (G8 (qS T.n11 (ak 2)) (Av 5 nd) dF (aq (aI nd (bg dH (bg dv (bg dv (bg dv (bg qP (ak 4) (ak 4)) (bg qP aA (ak 4))) (ak 5)) (ak 1)) aA))
   (bj (ky (i:=3) (ak 4)))))
   (bj (iU 3)))))
theorem Vz:Fn P w K mg base 1 "_law_stretch" iX:=T.d26.fq T.hX pA ["_law_x","_law_start"] 1 λnd G hu=>
  (aq (aI nd (bg dH (ak 0) aA))
   (aq (bw (aC (cr hu) (bg dH (bg qM (ak 0) aA) aA) aA) (bc (aJ 1 (ai da ao))))
   (aO (bc (aJ 1 (ai (bg dv (bg dv (ak 1) aA) (bg dH (bg qM (ak 0) aA) aA)) ao))))))
theorem V0:Fn P w K mg base 2 "_law_deed" rY:=T.d27.fq T.hX zw ["_law_xs","_law_k","_law_day","_law_people","_law_by","_law_other","_law_part","_law_near","_law_whom_here","_law_word"] 3 λnd G hu=>
  (aq (aI nd (cP (ai a7 (ai a7 (ai a7 (ai a7 ao))))))
   (aq (aI nd (bd (ak 3) (bg dH (bg dH (aW 0) aA) aA)))
   (aq (aI nd (bd (ak 3) (bg dH (aW 0) aA)))
   (aq (aI nd (aU (Vz T) G (ai (aW 0) ao)))
   (aq (aI nd (aF OW T.n9 OU (eP (ai (bg yx (bg yx (ak 1) aA) (bg dH (aW 0) aA)) ao))))
   (aq (aI nd (bd (cP (ai da (aJ 5 ao))) (bg dH (aW 0) aA)))
   (aq (aI nd (bg dH (aW 0) aA))
   (aq (bw (aC kB (ak 9) aA) (bc (ai a7 (aJ 2 (aJ 4 (aJ 5 (ai (bd (cP (eP (eP (eP ao)))) (bg dH (aW 0) aA)) (aJ 6 (ai (bg dH (aW 0) aA) ao)))))))))
   (aq (bw (aC kB (ak 9) aA) (bc (ai a7 (aJ 2 (aJ 4 (eP (aJ 6 (aJ 8 (ai (eX (bc (ai a7 (ai a7 (ai a7 ao)))) ig (fG (bg dv aA (bg dH (bg qM (aW 0) aA) aA)))) ao)))))))))
   (aq (bw (aC kB (ak 9) aA) (bc (ai a7 (aJ 2 (aJ 4 (eP (aJ 6 (aJ 8 (aJ 7 (ai (bc (ai (bc (ai (bg dH (aW 0) aA) (ai a7 ao))) ao)) ao))))))))))
   (aq (bw (aC kB (ak 9) aA) (bc (ai a7 (aJ 2 (aJ 4 (aJ 7 ao))))))
   (aq (bw (aC (cr hu) (ak 9) aA) (bc (ai a7 (aJ 2 (aJ 4 (aJ 7 ao))))))
   (aO (bc (ai (bd (cP (ai a7 (ai a7 (ai a7 ao)))) (bg dH (aW 0) aA)) (aJ 2 (aJ 5 ao)))))))))))))))))
theorem V1:Fn P w K mg base 3 "_law_rows" rZ:=T.d28.fq T.hX zx ["_law_script","_law_first","_law_rows_here","_law_cells","_law_cell","_law_xs","_law_day","_law_at"] 1 λnd G hu=>by
  refine @aq _ _ _ _ _ ?_ ?_
  ·exact(aI nd (aU (QE T) G (aJ 0 (eP ao))))
  refine @aq _ _ _ _ _ ?_ ?_
  ·exact(by refine @aI _ _ _ _ 2 _ _ nd ?_ rfl (by first|exact Or.inl rfl|exact Or.inr rfl) rfl (by first|exact .inl rfl|exact .inr rfl);refine @cP _ _ _ _ ?_;refine Ao ?_ ?_;refine @bc _ _ _ _ _ ?_;refine @eP _ _ _ _ _ _ ?_;refine Ao ?_ ?_;refine @bc _ _ _ _ _ ?_;refine qe ?_ ?_;exact a7;refine qe ?_ ?_;exact a7;refine @eP _ _ _ _ _ _ ?_;refine @eP _ _ _ _ _ _ ?_;refine qe ?_ ?_;exact a7;exact ao;exact ao;refine Ao ?_ ?_;refine @bc _ _ _ _ _ ?_;refine @eP _ _ _ _ _ _ ?_;refine Ao ?_ ?_;refine @bc _ _ _ _ _ ?_;refine qe ?_ ?_;exact a7;refine @eP _ _ _ _ _ _ ?_;refine qe ?_ ?_;exact a7;refine qe ?_ ?_;exact a7;exact ao;exact ao;exact ao)
  refine @aq _ _ _ _ _ ?_ ?_
  ·exact(hU (aC (cr hu) (bg dH (ak 1) aA) aA) (bj (by refine @aI _ _ _ _ 2 _ _ nd ?_ rfl (by first|exact Or.inl rfl|exact Or.inr rfl) rfl (by first|exact .inl rfl|exact .inr rfl);refine @bg _ _ _ _ _ _ _ _ dv ?_ ?_;exact(ak 2);refine @cP _ _ _ _ ?_;refine Ao ?_ ?_;refine @bc _ _ _ _ _ ?_;refine @eP _ _ _ _ _ _ ?_;refine Ao ?_ ?_;refine @bc _ _ _ _ _ ?_;refine qe ?_ ?_;exact a7;refine qe ?_ ?_;exact a7;refine @eP _ _ _ _ _ _ ?_;refine @eP _ _ _ _ _ _ ?_;refine qe ?_ ?_;exact a7;exact ao;exact ao;refine Ao ?_ ?_;refine @bc _ _ _ _ _ ?_;refine @eP _ _ _ _ _ _ ?_;refine Ao ?_ ?_;refine @bc _ _ _ _ _ ?_;refine qe ?_ ?_;exact a7;refine @eP _ _ _ _ _ _ ?_;refine qe ?_ ?_;exact a7;refine qe ?_ ?_;exact a7;exact ao;exact ao;exact ao)) gW)
  refine @aq _ _ _ _ _ ?_ ?_
  ·exact(aI nd (eX (ak 0) (fG aA) (fG aA)))
  refine @aq _ _ _ _ _ ?_ ?_
  ·exact(hU (aC (cr hu) (bg dH (aU (QE T) G (aJ 0 (eP ao))) aA) aA) (bj (aI nd (bg dv (ak 3) (aU (RS T) G (ai (aU (QE T) G (aJ 0 (eP ao))) (eP (ai (bg yx aA (aF eW T.n7 eM (aJ 3 ao))) ao))))))) gW)
  refine @aq _ _ _ _ _ ?_ ?_
  ·exact(yH [3] (kM (bL (ak 3)) (Av 4 nd) dF (aq (aI nd (aU (RS T) G (aJ 4 (ai (aF eW T.n7 eM (aJ 2 ao)) (eP ao))))) (aq (aI nd (bg dH (aW 5) aA)) (aq (aI nd (bg dv (ak 6) (bd (cP (eP (eP (eP (ai (bg dH (bg qM (aW 5) aA) aA) ao))))) (bg dH (bg qM (aW 5) aA) aA)))) (bj (ky (i:=2) (bc (aJ 7 (ai (aU (V0 T) G (aJ 5 (ai (aF eW T.n7 eM (aJ 2 ao)) (aJ 6 ao)))) ao))))))))))
  exact(bj (iU 2))
theorem RT:Fn P w K mg base 1 "is_known" cA:=T.d29.fq T.hX sd ["book","known","number"] 3 λnd G hu=>
  (aO (du (qJ hV kB aA (ak 2) (aF eW T.n7 eM (aJ 0 ao))) (c9 (bP hV (bd (bd (ak 0) (ak 2)) aA) (ak 1)))))
theorem QF:Fn P w K mg base 2 "is_paper" cB:=T.d30.fq T.hX se ["book","known","number"] 3 λnd G hu=>
  (aO (du (a0 (RT T) G) (c9 (bP uA (aU (qg T) G (ai (bd (ak 0) (ak 2)) ao)) (de T.k7)))))
theorem V2:Fn P w K mg base 1 "changed" oG:=T.d31.fq T.hX wg ["pieces","place","piece"] 3 λnd G hu=>
  (aO (bg Gh (bg Gh (eX (ak 0) ig (fG (ak 1))) (bc (aJ 2 ao))) (eX (ak 0) (fG (bg dv (ak 1) aA)) ig)))
theorem V3:Fn P w K mg base 3 "put_together" iI:=T.d32.fq T.hX kZ ["book","path","pieces","number","place","piece"] 2 λnd G hu=>
  (aq (aI nd (aU (jt T) G (ai (bd (hs:=Np) (ak 0) (bd (ak 1) (KW La aA))) (ai a7 ao))))
   (aq (kM (MN T.n12 (ak 1)) (Av 3 nd) dF (aq (hU (aC (xc hu) (aU (qg T) G (ai (bd (ak 0) (ak 3)) ao)) a7) (bj Ce) gW)
   (bj (yH [3] (kM (bL (aU (jt T) G (ai (bd (ak 0) (ak 3)) (ai a7 ao)))) (wF rfl (gK (Av 4 nd) (gK (Av 5 nd) qj))) Ld (aq (bw (aC DB (ak 4) (aF eW T.n7 eM (aJ 2 ao))) (bc (ai a7 (aJ 3 ao))))
   (bj (aI nd (a0 (V2 T) G)))))))))
   (aO (bc (ai a7 (aJ 2 ao))))))
theorem TF:Fn P w K mg base 4 "words" lE:=T.d33.fq T.hX C7 ["book","known","number","path","at"] 3 λnd G hu=>
  (aq (aI nd (cP ao))
   (aq (aI nd (ak 2))
   (aq (qN 1000 PassesOwn.never (aC kE (ak 4) (ak 3)) (aq (bw (bS (bo (a0 (QF T) G))) (bc (ai a7 (aJ 4 ao))))
   (aq (ky (i:=3) (ak 4))
   (aq (bw (aC (cr hu) (aU (qg T) G (ai (bd (ak 0) (ak 4)) ao)) a7) (a0 (V3 T) G))
   (bj (aI nd (aU (jt T) G (ai (bd (ak 0) (ak 4)) (ai a7 ao)))))))))
   (aO Cy))))
theorem RU:Fn P w K mg base 1 "lies_in" gn:=T.d34.fq T.hX wh ["day","stretch"] 2 λnd G hu=>
  (aO (du (bP hV (aW 1) (ak 0)) (c9 (qK (bP xh (aW 1) da) (c9 (bP kB (ak 0) (aW 1)))))))
theorem PF:Fn P w K mg base 1 "heard" cE:=T.d35.fq T.hX C8 ["book","known"] 2 λnd G hu=>
  (aO (fE ["number","row","known"] (Ji T.n4 (ak 0)) (dY (aC hV (aW 1) (ak 2))) (ak 0)))
theorem PH:Fn P w K mg base 4 "rank" fz:=T.d36.fq T.hX GF ["book","number"] 2 λnd G hu=>
  (aO (bc (ai (aU (Ax T) G (ai (bd (ak 0) (ak 1)) ao)) (aJ 1 ao))))
theorem TH:Fn P w K mg base 8 "in_order" eC:=T.d37.fqL T.hX sf ["book","known","dated"] 2 λnd G hu M=>
  (aq (lP ["number","book"] nd (bL (a0 (PF T) G)) (dY (aC ql (aU (Ax T) G (ai (bd (ak 1) (ak 0)) ao)) da)) (ak 0))
   (aO (Gd Gb T.n14 (ak 2) (xC (cap:=[0]) (N':=["number","book"]) (by decide +kernel) T.l37 M rfl rfl (Cp (by decide +kernel) rfl rfl rfl rfl rfl) rfl (.cons rfl rfl (Or.inl rfl) rfl (qk (by decide +kernel) rfl) (.nil rfl)) rfl G.in1.in1 (λ_ _ _ _=>rfl) λ_ _ _ _ G=>have hu:=AH G;(a0 (PH T) G)))))
theorem V4:Fn P w K mg base 1 "by_office" gP:=T.d38.fq T.hX pB ["claim"] 1 λnd G hu=>
  (aO (bc (ai (aW 0) (ai (aW 0) (ai (aW 0) ao)))))
theorem RV:Fn P w K mg base 3 "roots" gJ:=T.d39.fq T.hX C9 ["book","known","known_rows"] 2 λnd G hu=>
  (aq (lP ["number","book"] nd (bL (a0 (PF T) G)) fY (bd (ak 1) (ak 0)))
   (aO (u9 (MF rfl) T.n3 ME (ai (fE ["row"] (bL (ak 2)) (dY (aC (cr hu) (a0 (qg T) G) a7)) (bc (ai (a0 (jt T) G) (aJ 0 ao)))) ao))))
theorem V5:Fn P w K mg base 4 "tells" qu:=T.d40.fq T.hX CA ["row","words","person","day"] 4 λnd G hu=>
  (aO (du (bP uA (a0 (qg T) G) (ak 1)) (du (bP (cr hu) (a0 (jt T) G) (ak 2)) (c9 (bP hV (a0 (Ax T) G) (ak 3))))))
theorem RW:Fn P w K mg base 5 "told_of" iu:=T.d41.fq T.hX wj ["book","known","words","person","day"] 5 λnd G hu=>
  (aO (fE ["number","words","person","day","book"] (bL (a0 (PF T) G)) (dY (bo (aU (V5 T) G (ai (bd (ak 4) (ak 0)) (aJ 1 (aJ 2 (aJ 3 ao))))))) (ak 0)))
theorem TJ:Fn P w K mg base 6 "lives" qw:=T.d42.fq T.hX CB ["book","known","person","day"] 4 λnd G hu=>
  (aO (bP (cr hu) (aF eW T.n7 eM (ai (aU (RW T) G (aJ 0 (aJ 1 (ai (bc (ai a7 ao)) (aJ 2 (aJ 3 ao)))))) ao)) aA))
theorem V6:Fn P w K mg base 8 "has_seal" ms:=T.d43.fqL T.hX sg ["book","known","person","day","told"] 4 λnd G hu M=>
  (aq (aI nd (aU (RW T) G (aJ 0 (aJ 1 (ai (bc (ai a7 (ai a7 ao))) (aJ 2 (aJ 3 ao)))))))
   (aq (bw (aC (cr hu) (aF eW T.n7 eM (aJ 4 ao)) aA) cZ)
   (aO (bP (cr hu) (aU (qg T) G (ai (bd (ak 0) (zg T6 T.n9 (ak 4) (xC (cap:=[0]) (N':=["number","book"]) (by decide +kernel) T.l43 M rfl rfl (Cp (by decide +kernel) rfl rfl rfl rfl rfl) rfl (.cons rfl rfl (Or.inl rfl) rfl (qk (by decide +kernel) rfl) (.nil rfl)) rfl G.in1 (λ_ _ _ _=>rfl) λ_ _ _ _ G=>have hu:=AH G;(a0 (PH T) G)) G)) ao)) a7))))
theorem RX:Fn P w K mg base 9 "is_sound" gp:=T.d44.fq T.hX si ["book","known","number","sealer","day"] 3 λnd G hu=>
  (aq (bw (fP (dG (bS (bo (a0 (RT T) G))) (dr (aC kE (aU (qg T) G (ai (bd (ak 0) (ak 2)) ao)) (de T.k11))))) cZ)
   (aq (aI nd (aU (jt T) G (ai (bd (ak 0) (ak 2)) (ai a7 ao))))
   (aq (aI nd (aU (Ax T) G (ai (bd (ak 0) (ak 2)) ao)))
   (aO (du (a0 (TJ T) G) (c9 (a0 (V6 T) G)))))))
theorem RY:Fn P w K mg base 2 "is_alive" cS:=T.d45.fq T.hX sj ["claim","day"] 2 λnd G hu=>
  (aO (aU (RU T) G (aJ 1 (ai (bc (ai (aW 0) (ai (aW 0) ao))) ao))))
theorem RZ:Fn P w K mg base 1 "by_since" dB:=T.d46.fq T.hX sk ["claim"] 1 λnd G hu=>
  (aO (bc (ai (aW 0) (ai (aW 0) ao))))
theorem V7:Fn P w K mg base 5 "chief_of" mu:=T.d47.fq T.hX sn ["alive","rule"] 2 λnd G hu=>
  (aq (bw (aC (cr hu) (ak 1) a7) (bd (zg T6 T.n9 (ak 0) (Cr (RZ T) (G.in1.mono (by decide)) rfl) G) aA))
   (aO (bd (zg R8 T.n10 (ak 0) (Cr (RZ T) (G.in1.mono (by decide)) rfl) G) aA)))
theorem TK:Fn P w K mg base 6 "holder_by" eE:=T.d48.fq T.hX pC ["claimed","root","day","alive","people","person","oldest"] 3 λnd G hu=>
  (aq (lP ["claim","day","root"] nd (bL (ak 0)) (dY (fP (jG (aC (cr hu) (aW 0) (a0 (jt T) G)) (ib (bo (a0 (RY T) G)))))) (ak 0))
   (aq (aI nd (mm rfl T.n14 T.n13 (fE ["claim"] (bL (ak 3)) fY (aW 0))))
   (aq (bw (aC (cr hu) (aF eW T.n7 eM (aJ 4 ao)) aA) (bc (ai a7 ao)))
   (aq (bw (fP (jG (aC DB (aF eW T.n7 eM (aJ 4 ao)) aA) (ib (aC (cr hu) (a0 (jt T) G) a7)))) (bc (ai a7 (aJ 4 ao))))
   (aq (aI nd (aU (V7 T) G (aJ 3 (ai (a0 (jt T) G) ao))))
   (aq (aI nd (zg R8 T.n10 (fE ["claim","person"] (bL (ak 3)) (dY (aC (cr hu) (aW 0) (ak 1))) (ak 0)) (Cr (RZ T) (G.in1.mono (by decide)) rfl) G))
   (aO (bc (ai a7 (aJ 5 (ai (aW 6) ao)))))))))))
theorem Sa:Fn P w K mg base 7 "is_held_by" dC:=T.d49.fq T.hX nB ["claimed","root","person","day"] 4 λnd G hu=>
  (aO (bP (cr hu) (eX (a0 (TK T) G) ig (fG aA)) (bc (ai a7 (aJ 2 ao)))))
theorem V8:Fn P w K mg base 8 "is_first_death" gs:=T.d50.fqL T.hX jA ["book","known","number","row","deaths"] 3 λnd G hu M=>
  (aq (aI nd (bd (ak 0) (ak 2)))
   (aq (aI nd (aU (RW T) G (aJ 0 (aJ 1 (ai (bc (ai a7 ao)) (ai (a0 (jt T) G) (ai (a0 (Ax T) G) ao)))))))
   (aO (bP (cr hu) (zg R8 T.n10 (ak 4) (xC (cap:=[0]) (N':=["each","book"]) (by decide +kernel) T.l50 M rfl rfl (Cp (by decide +kernel) rfl rfl rfl rfl rfl) rfl (.cons rfl rfl (Or.inl rfl) rfl (qk (by decide +kernel) rfl) (.nil rfl)) rfl G.in1 (λ_ _ _ _=>rfl) λ_ _ _ _ G=>have hu:=AH G;(a0 (PH T) G)) G) (ak 2)))))
theorem V9:Fn P w K mg base 10 "counts" nD:=T.d51.fq T.hX zy ["book","known","so_far","number","row","root"] 4 λnd G hu=>
  (aq (aI nd (bd (ak 0) (ak 3)))
   (aq (bw (aC (cr hu) (a0 (qg T) G) a7) (a0 (V8 T) G))
   (aq (bw (aC kE (a0 (qg T) G) (bc (ai a7 (ai a7 (ai a7 ao))))) cZ)
   (aq (aI nd (Gk (NS hu) (a0 (RV T) G) (a0 (jt T) G) ⟨rfl,rfl,rfl,rfl⟩))
   (aq (bw (aC xh (ak 5) da) cZ)
   (aq (bw (aC (cr hu) (a0 (qg T) G) a7) cZ)
   (aO (du (a0 (RX T) G) (c9 (aU (Sa T) G (aJ 2 (aJ 5 (ai (a0 (jt T) G) (ai (a0 (Ax T) G) ao))))))))))))))
theorem VA:Fn P w K mg base 3 "new_claim" iY:=T.d52.fq T.hX pD ["row","since","number"] 3 λnd G hu=>
  (aO (bc (ai (a0 (jt T) G) (ai (a0 (jt T) G) (aJ 1 (ai da (aJ 2 ao)))))))
theorem VB:Fn P w K mg base 3 "ended" xM:=T.d53.fq T.hX CC ["so_far","offices","person","day","left","claim"] 4 λnd G hu=>
  (aq (aI nd (cP ao))
   (aq (kM (bL (ak 0)) (Av 5 nd) dF (bj (hU (fP (dG (aC kE (aW 5) (ak 1)) (dG (aC (xc hu) (aW 5) (ak 2)) (dr (bS (fP (dG (bo (a0 (RY T) G)) (dr (aC DB (aW 5) (ak 3)))))))))) (bj (ky (i:=4) (ak 5))) (bj (hU (aC kB (aW 5) (ak 3)) (bj (ky (i:=4) (bc (ai (aW 5) (aJ 2 (ai (aW 5) (aJ 3 (ai (aW 5) ao)))))))) gW)))))
   (bj (iU 4))))
theorem VC:Fn P w K mg base 7 "inherited" la:=T.d54.fq T.hX pF ["book","known","so_far","heirs","number","person","day","told","office","heir"] 5 λnd G hu=>
  (aq (aI nd (aU (jt T) G (ai (bd (ak 0) (ak 4)) (ai a7 ao))))
   (aq (aI nd (aU (Ax T) G (ai (bd (ak 0) (ak 4)) ao)))
   (aq (aI nd (cP ao))
   (aq (yH [5,6] (kM (bL (mm rfl T.n14 T.n13 (fE ["claim","person","day"] (bL (ak 2)) (dY (fP (jG (aC (cr hu) (aW 0) (ak 1)) (ib (bo (a0 (RY T) G)))))) (aW 0)))) (Av 8 nd) dF (aq (aI nd (G2 (NS hu) (ak 3) (aJ 8 (aJ 5 ao)) ⟨rfl,rfl,rfl,rfl⟩))
   (bj (hU (fP (jG (aC ql (ak 9) da) (ib (bo (a0 (TJ T) G))))) (bj (ky (i:=7) (bc (aJ 8 (aJ 9 (aJ 6 (ai da (aJ 4 ao)))))))) gW)))))
   (bj (iU 7))))))
theorem VD:Fn P w K mg base 8 "after_death" jm:=T.d55.fq T.hX lU ["book","known","so_far","heirs","number","offices","left"] 5 λnd G hu=>
  (aq (lP ["claim"] nd (bL (ak 2)) fY (aW 0))
   (aq (aI nd (aU (VB T) G (aJ 2 (aJ 5 (ai (aU (jt T) G (ai (bd (ak 0) (ak 4)) (ai a7 ao))) (ai (aU (Ax T) G (ai (bd (ak 0) (ak 4)) ao)) ao))))))
   (aO (bg dv (ak 6) (a0 (VC T) G)))))
theorem VE:Fn P w K mg base 11 "claims" sr:=T.d56.fq T.hX z4 ["book","known","so_far","heirs","number","row"] 2 λnd G hu=>
  (aq (aI nd (cP ao))
   (aq (Jx (i:=3) nd)
   (aq (kM (bL (a0 (TH T) G)) (Av 4 nd) dF (aq (aI nd (bd (ak 0) (ak 4)))
   (aq (hU (bS (bo (a0 (V9 T) G))) (bj Ce) gW)
   (bj (hU (aC (cr hu) (a0 (qg T) G) a7) (bj (aI nd (bg dv (ak 2) (cP (ai (aU (VA T) G (aJ 5 (ai (a0 (Ax T) G) (aJ 4 ao)))) ao))))) (bj (hU (aC (cr hu) (a0 (qg T) G) a7) (bj (aI nd Cy)) (bj (hU (aC (cr hu) (a0 (qg T) G) a7) (bj (J0 (i:=3) (NS hu) (a0 (jt T) G) (ai (a0 (jt T) G) (ai (a0 (jt T) G) ao)))) (bj (aI nd (a0 (VD T) G))))))))))))
   (aO (Gd Gb T.n14 (ak 2) (Cr (V4 T) (G.in1.in1.mono (by decide)) rfl))))))
theorem TL:Fn P w K mg base 2 "is_leave" gt:=T.d57.fq T.hX su ["book","known","number"] 3 λnd G hu=>
  (aO (du (a0 (RT T) G) (c9 (bP (cr hu) (aU (qg T) G (ai (bd (ak 0) (ak 2)) ao)) a7))))
theorem Sb:Fn P w K mg base 3 "is_borne" eF:=T.d58.fq T.hX sv ["book","known","number"] 3 λnd G hu=>
  (aO (qK (a0 (TL T) G) (c9 (a0 (QF T) G))))
theorem TM:Fn P w K mg base 1 "covers" iJ:=T.d59.fq T.hX sw ["matters","some"] 2 λnd G hu=>
  (aO (bP (cr hu) (bg OQ (ak 0) (ak 1)) (ak 1)))
theorem TN:Fn P w K mg base 3 "reach_bar" iZ:=T.d60.fq T.hX pG ["row","above"] 2 λnd G hu=>
  (aq (bw (bS (bo (aU (TM T) G (ai (a0 (jt T) G) (ai (a0 (jt T) G) ao))))) a7)
   (aq (bw (fP (jG (aC (cr hu) (a0 (qg T) G) a7) (ib (aC OR (a0 (jt T) G) (a0 (jt T) G))))) a7)
   (aO da)))
theorem VF:Fn P w K mg base 8 "office_bar" ii:=T.d61.fq T.hX nF ["claimed","row","root"] 3 λnd G hu=>
  (aq (bw (bS (bo (aU (Sa T) G (aJ 0 (aJ 2 (ai (a0 (jt T) G) (ai (a0 (Ax T) G) ao))))))) a7)
   (aO (a0 (TN T) G)))
theorem VG:Fn P w K mg base 9 "office_bases" iK:=T.d62.fq T.hX lb ["book","known","claimed","number","row","bearing"] 4 λnd G hu=>
  (aq (aI nd (bd (ak 0) (ak 3)))
   (aq (lP ["root","claimed","row"] nd (C0 (a0 (RV T) G)) (dY (aC xh (a0 (VF T) G) da)) (ak 0))
   (aO (fE ["root","claimed","row"] (bL (ak 5)) fY (bc (ai a7 (ai (a0 (jt T) G) (ai (bd (aU (TK T) G (aJ 1 (aJ 0 (ai (a0 (Ax T) G) ao)))) aA) ao))))))))
theorem VH:Fn P w K mg base 1 "ends_within" jn:=T.d63.fq T.hX lV ["stop","bound"] 2 λnd G hu=>
  (aq (bw (aC xh (ak 1) da) cZ)
   (aO (du (bP ql (ak 0) da) (c9 (bP hV (ak 0) (ak 1))))))
theorem VI:Fn P w K mg base 2 "is_within" ja:=T.d64.fq T.hX pH ["one","other"] 2 λnd G hu=>
  (aO (du (bP hV (aW 1) (aW 0)) (c9 (aU (VH T) G (ai (aW 0) (ai (aW 1) ao))))))
theorem TQ:Fn P w K mg base 5 "is_ahead" gu:=T.d65.fq T.hX sy ["book","one","other"] 3 λnd G hu=>
  (aO (bP (Ph hu) (a0 (PH T) G) (a0 (PH T) G)))
theorem VJ:Fn P w K mg base 6 "leave_bar" jb:=T.d66.fq T.hX pJ ["book","number","leave","row","stretch"] 3 λnd G hu=>
  (aq (aI nd (bd (ak 0) (ak 1)))
   (aq (aI nd (aU (jt T) G (ai (bd (ak 0) (ak 2)) (ai a7 ao))))
   (aq (bw (bS (bo (a0 (TQ T) G))) a7)
   (aq (bw (fP (dG (bS (bo (aU (RU T) G (ai (a0 (Ax T) G) (aJ 4 ao))))) (dr (bS (bo (aU (VI T) G (ai (a0 (jt T) G) (aJ 4 ao)))))))) a7)
   (aO (aU (TN T) G (aJ 3 (ai (bd (ak 0) (ak 2)) ao))))))))
theorem VL:Fn P w K mg base 3 "leaves_to" lf:=T.d67.fq T.hX pK ["book","known","person","leaves"] 3 λnd G hu=>
  (aq (lP ["number","book","known"] nd (bL (a0 (PF T) G)) (dY (bo (a0 (TL T) G))) (ak 0))
   (aO (fE ["number","person","book"] (bL (ak 3)) (dY (aC (cr hu) (aU (jt T) G (ai (bd (ak 2) (ak 0)) (ai a7 ao))) (ak 1))) (ak 0))))
theorem VM:Fn P w K mg base 7 "leave_bases" jo:=T.d68.fq T.hX lW ["book","known","number","leaves"] 3 λnd G hu=>
  (aq (aI nd (aU (VL T) G (aJ 0 (aJ 1 (ai (aU (jt T) G (ai (bd (ak 0) (ak 2)) (ai a7 ao))) ao)))))
   (aO (fE ["leave","book","number"] (bL (ak 3)) (dY (aC xh (a0 (VJ T) G) da)) (bc (ai a7 (aJ 0 ao))))))
theorem VN:Fn P w K mg base 6 "copy_bases" jR:=T.d69.fq T.hX nG ["book","known","number","of"] 3 λnd G hu=>
  (aq (aI nd (aU (jt T) G (ai (bd (ak 0) (ak 2)) (ai a7 ao))))
   (aq (bw (fP (jG (bo (a0 (QF T) G)) (ib (bo (a0 (TQ T) G))))) (cP (ai (bc (ai a7 (aJ 3 ao))) ao)))
   (aO (cP ao))))
theorem VO:Fn P w K mg base 10 "bases_by" fB:=T.d70.fqL T.hX sA ["book","known","claimed","number","found"] 4 λnd G hu M=>
  (aq (bw (bS (bo (a0 (Sb T) G))) (cP ao))
   (aq (bw (aC (cr hu) (aU (qg T) G (ai (bd (ak 0) (ak 3)) ao)) a7) (a0 (VN T) G))
   (aq (aI nd (bg dv (a0 (VG T) G) (a0 (VM T) G)))
   (aO (Gd (G6 hu) T.n14 (ak 4) (xC (cap:=[]) (N':=["base"]) (by decide +kernel) T.l70 M rfl rfl (Cp (by decide +kernel) rfl rfl rfl rfl rfl) rfl (.nil rfl) rfl G.in1.in1 (λ_ _ _ _=>rfl) λ_ _ _ _ G=>have hu:=AH G;(bc (ai (bd (ak 0) (KW La aA)) (aJ 0 ao)))))))))
theorem VP:Fn P w K mg base 8 "may_call" mv:=T.d71.fq T.hX sC ["book","known","claimed","call","number","row","caller","over"] 5 λnd G hu=>
  (aq (aI nd (bd (ak 0) (ak 4)))
   (aq (aI nd (aU (jt T) G (ai (bd (ak 0) (ak 3)) (ai a7 ao))))
   (aq (bw (aC (cr hu) (ak 6) (a0 (jt T) G)) cZ)
   (aq (bw (aC (cr hu) (a0 (qg T) G) a7) cZ)
   (aq (lP ["root","row"] nd (C0 (a0 (RV T) G)) (dY (bo (aU (TM T) G (ai (a0 (jt T) G) (ai (a0 (jt T) G) ao))))) (ak 0))
   (aO (aF Lb T.n1 Lc (ai (fE ["root","claimed","caller","book","call"] (bL (ak 7)) fY (aU (Sa T) G (aJ 1 (aJ 0 (aJ 2 (ai (aU (Ax T) G (ai (bd (ak 3) (ak 4)) ao)) ao)))))) ao))))))))
theorem VQ:Fn P w K mg base 10 "calls_in" jS:=T.d72.fq T.hX sD ["book","known","claimed","call","number","day","row"] 6 λnd G hu=>
  (aq (aI nd (bd (ak 0) (ak 3)))
   (aq (bw (fP (dG (aC (xc hu) (a0 (qg T) G) a7) (dG (aC (xc hu) (a0 (jt T) G) (ak 4)) (dr (aC DB (a0 (Ax T) G) (ak 5)))))) cZ)
   (aO (du (a0 (RX T) G) (c9 (a0 (VP T) G))))))
theorem VR:Fn P w K mg base 11 "calls_by" mw:=T.d73.fq T.hX sE ["book","known","claimed","number","day"] 5 λnd G hu=>
  (aq (bw (bS (bo (a0 (Sb T) G))) (cP ao))
   (aO (fE ["call","book","known","claimed","number","day"] (bL (a0 (PF T) G)) (dY (bo (a0 (VQ T) G))) (ak 0))))
theorem VS:Fn P w K mg base 12 "is_fit" nH:=T.d74.fq T.hX z5 ["book","known","claimed","number","day"] 5 λnd G hu=>
  (aq (bw (fP (dG (bS (bo (a0 (RX T) G))) (dr (aC DB (aU (Ax T) G (ai (bd (ak 0) (ak 3)) ao)) (ak 4))))) cZ)
   (aO (bP (cr hu) (aF eW T.n7 eM (ai (a0 (VR T) G) ao)) aA)))
theorem VT:Fn P w K mg base 13 "links" xN:=T.d75.fq T.hX CD ["book","known","day","claimed","found","number"] 3 λnd G hu=>
  (aq (IY (i:=3) nd (a0 (VE T) G))
   (aq (Cw (i:=4) nd)
   (aq (kM (bL (a0 (TH T) G)) (Av 5 nd) dF (bj (hU (fP (jG (bo (a0 (Sb T) G)) (ib (bo (a0 (VS T) G))))) (bj (GC (i:=4) (NS hu) (a0 (VO T) G) (ak 5))) gW)))
   (bj (iU 4)))))
theorem VU:Fn P w K mg base 1 "bears" nI:=T.d76.fq T.hX CF ["base","among"] 2 λnd G hu=>
  (aO (qK (bP (cr hu) (aW 0) a7) (c9 (MJ (NS hu) (aW 0) (ak 1)))))
theorem VV:Fn P w K mg base 2 "stood" xO:=T.d77.fq T.hX CG ["found","stands","number","resting"] 1 λnd G hu=>
  (aq (Cw (i:=1) nd)
   (aq (kM (GB (ak 0)) (wF rfl (gK (Av 2 nd) (gK (Av 3 nd) qj))) Ld (bj (hU (bo (aF Lb T.n1 Lc (ai (fE ["base","stands"] (bL (ak 3)) fY (a0 (VU T) G)) ao))) (bj (Jy (i:=1) (NS hu) cZ (ak 2))) gW)))
   (bj (iU 1))))
theorem VW:Fn P w K mg base 14 "standing" iL:=T.d78.fq T.hX sG ["book","known","day"] 3 λnd G hu=>
  (aO (aF (Eh rfl) T.n14 yU (ai (aU (VV T) G (ai (a0 (VT T) G) ao)) ao)))
theorem TR:Fn P w K mg base 3 "paper_behind" dh:=T.d79.fq T.hX lg ["book","number","row"] 2 λnd G hu=>
  (aq (aI nd (bd (ak 0) (ak 1)))
   (aq (qN 1000 PassesOwn.never (aC (cr hu) (a0 (qg T) G) a7) (bj (aI nd (bd (ak 0) (a0 (jt T) G)))))
   (bj (iU 2))))
theorem TU:Fn P w K mg base 15 "holding" gy:=T.d80.fq T.hX wk ["book","known","day","stands"] 3 λnd G hu=>
  (aq (lP ["number","book","known"] nd (bL (a0 (VW T) G)) (dY (bo (a0 (QF T) G))) (ak 0))
   (aO (fE ["number","day","book"] (bL (ak 3)) (dY (bo (aU (RU T) G (aJ 1 (ai (aU (jt T) G (ai (a0 (TR T) G) (ai a7 ao))) ao))))) (ak 0))))
theorem TV:Fn P w K mg base 4 "whom_of" gz:=T.d81.fq T.hX wl ["book","number"] 2 λnd G hu=>
  (aO (aU (jt T) G (ai (a0 (TR T) G) (ai a7 ao))))
theorem VX:FnD P w K mg base 16 "holds" nJ:=T.d82.fqD T.hX CH ["book","known","day","number","person"] 5 λnd G hu=>
  (aq (bw (aC kE (ak 3) (a0 (TU T) G)) cZ)
   (aO (qK (bP xh (ak 4) da) (c9 (bP uA (a0 (TV T) G) (bc (ai da (aJ 4 ao))))))))
theorem TW:Fn P w K mg base 16 "judged" nL:=T.d83.fq T.hX z8 ["book","known","day"] 3 λnd G hu=>
  (aO (fE ["number","book","known"] (bL (a0 (TU T) G)) fY (bc (aJ 0 (ai (a0 (TV T) G) (ai (a0 (TF T) G) ao))))))
theorem VY:Fn P w K mg base 1 "_law_whom" nM:=T.d84.fq T.hX z9 ["_law_rows_here","_law_number","_law_at"] 2 λnd G hu=>
  (aq (aI nd (ak 1))
   (aq (qN 1000 PassesOwn.never (aC (cr hu) (bd (bd (bd (ak 0) (ak 2)) aA) aA) a7) (bj (aI nd (bd (bd (bd (ak 0) (ak 2)) aA) aA))))
   (aO (bd (bd (bd (ak 0) (ak 2)) aA) aA))))
theorem VZ:Fn P w K mg base 17 "_law_right" oJ:=T.d85.fq T.hX wm ["_law_book","_law_rows_here","_law_known","_law_day","_law_found","_law_due","_law_number","_law_row"] 4 λnd G hu=>
  (aq (aI nd (a0 (TW T) G))
   (aq (aI nd (cP ao))
   (aq (G8 (qS T.n11 (aF eW T.n7 eM (aJ 1 ao))) (Av 6 nd) dF (bj (hU (bo (Pp (VX T) G (aJ 0 (aJ 2 (aJ 3 (aJ 6 ao)))))) (bj (ky (i:=5) (bc (aJ 6 (ai (a0 (VY T) G) (ai (a0 (TF T) G) ao)))))) gW)))
   (aq (bw (fP (dG (bS (bo (aF b9 T.n6 bx (aJ 4 (ai (gL T.n8 AK) ao))))) (dr (aC (xc hu) (ak 4) (ak 5))))) cZ)
   (aq (Jz (i:=4) (sx:=7) PassesOwn.never rfl nd (fP (dG (bS (bo (aF b9 T.n6 bx (aJ 7 (ai (gL T.n16 gG) ao))))) (dG (bo (aF b9 T.n6 bx (ai (aW 7) (ai (gL T.n2 Fy) ao)))) (dr (bS (bo (aF b9 T.n6 bx (ai (aW 7) (ai (gL T.n16 gG) ao))))))))) (aO cZ))
   (aq (ky (i:=4) (bc ao))
   (aO (bP (cr hu) (a0 (TW T) G) (ak 5)))))))))
theorem head {fa:Addr}(O:mg "law" = some (.ref fa)):∃fd:FuncData,(∀(s:Shared)(u:Value),BindsTo s fd ⟨[u],[]⟩ [("_law_script",u)])/\∀base:Heap,K.In base->base.Ns mainGlobals mg->tR P w K mg base yc 18 fa fd ["_law_script"] (Fv K F_law):=by
 have S:FnScope ["_law_script","_law_rows_here","_law_book","_law_xs","_law_known","_law_day"] ["_law_script"] (aL (cM 110)):=by refine⟨rfl,rfl,rfl,?_,rfl,?_,?_⟩<;>decide +kernel
 have ⟨h,X,G⟩:=T.hX;exact c6.law T.d86 X G O S (λ_ _ _ _ _ _ u=>rfl) λbase U nb f cV A outer s H E M=>have hu:=AH M;have nd:=S.nd;(show tY _ _ Lm from
  (aq (aI nd (a0 (V1 T) M))
   (aq (aI nd (a0 (Vy T) M))
   (aq (aI nd (aU (RS T) M (ai (aU (QE T) M (aJ 0 (eP ao))) (eP (eP ao)))))
   (aq (yH [3] (kM (bL (cP (eP (ai (bg dH (aW 3) aA) ao)))) (Av 4 nd) dF (bj (yH [3] (kM (bL (cP (ai (bg dH (aW 3) aA) (ai (bg dv aA (bg dH (aW 3) aA)) ao)))) (Av 5 nd) dF (bj (bw (bS (bo (a0 (VZ T) M))) cZ)))))))
   (aO cZ))))))
end
end Lw
end
namespace PySem.W.Fast
def tw2786231861021610518:=()
def tw11515873195665900476:=()
def tw3498089363682347301:=()
def tw18167278942065008574:=()
def tw7565034570436069658:=()
def tw3029881024642996801:=()
def tw18112321759014020761:=()
def tw11258121170098725536:=()
def tw14366229415175511771:=()
def tw4598940553567179732:=()
def tw6983206202518997170:=()
def tw7309658031040251013:=()
def tw14203354200698559084:=()
def tw13007929136195337512:=()
def tw10334875858241938050:=()
def tw9124462453296040520:=()
def tw3916660255045009058:=()
def tw2736601980986125457:=()
def tw12692923280812883831:=()
def tw13701450701420595819:=()
def tw4071944358393757867:=()
def tw179593459925987256:=()
def tw11529763854400879031:=()
def tw6333275438937818278:=()
def tw11737503910814944815:=()
def tw13163036495527641206:=()
def tw15112393934626999997:=()
def tw8003942764620366383:=()
def tw9292611474687498298:=()
def tw1230608191740513483:=()
def tw12710884105557097368:=()
def tw6982448929694765685:=()
def tw11461329206159952363:=()
def tw4149158107731264119:=()
def tw8378452669232634337:=()
def tw9721419900122853691:=()
def tw8481303176294336674:=()
def tw14664021174158164642:=()
def tw13410188911607812766:=()
def tw12283741182662635140:=()
def tw13014031720747500466:=()
def tw3939188491917722865:=()
def tw7623535880842576792:=()
def tw4322385875717574386:=()
def tw1518679042677658636:=()
def tw3819851689007120684:=()
def tw2965306218977284436:=()
def tw15132700038553235180:=()
def tw7212167386115893532:=()
def tw8567616112395837527:=()
def tw2946708044914526040:=()
def tw265576697271006309:=()
def tw4924250638071918247:=()
def tw7536069486377523799:=()
def tw11111900173527577105:=()
def tw1590539872305596002:=()
def tw5441789331863734870:=()
def tw8183172594934008200:=()
def tw615625880984096037:=()
def tw9346258696927107814:=()
def tw9742505921775991180:=()
def tw12126327001319290407:=()
def tw627778665824351514:=()
def tw10984372179609340830:=()
def tw16951632330159843590:=()
def tw9055023774353887753:=()
def tw5289800908465069306:=()
def tw15285793991456032713:=()
def tw7137820599651998941:=()
def tw6531309835805710322:=()
def tw4554950221754876890:=()
def tw15611769167099788702:=()
def tw16810378288693279988:=()
def tw5118183142413427096:=()
def tw1617945485657960425:=()
def tw16776640788438581808:=()
def tw14983686919997244108:=()
def tw2389176097222584780:=()
def tw18064790629694810752:=()
def tw5606680006696172239:=()
def tw12779283644478409234:=()
def tw5167008526524438415:=()
def tw15016657796871073534:=()
def tw15605811431485402495:=()
def tw5622105628999308160:=()
def tw18232738066803454617:=()
def tw5755425721982849285:=()
def tw2128592712409164643:=()
def tw7814568807215833499:=()
def tw6030992826379090576:=()
def tw17777646681945352222:=()
def tw8623791399693619618:=()
def tw2469948980315842296:=()
def tw12495281065648744625:=()
def tw4754709240057329335:=()
def tw2712973532850574461:=()
def tw10329682199088348634:=()
def tw3112222259531816000:=()
def tw2570437566689181910:=()
def tw13314414747960748091:=()
def tw10829637994580946648:=()
def tw11120418757981688034:=()
def tw14563188413404388784:=()
def tw4175811456904244861:=()
def tw12509982166275940102:=()
def tw13968241683015906334:=()
def tw4255123743078460495:=()
def tw7735216538221463330:=()
def tw698918594599493827:=()
def tw9488984234170197436:=()
def tw3480188504137988191:=()
def tw3519427411771817469:=()
def tw17378205725952680011:=()
def tw6761063942967611130:=()
def tw3287608191726031950:=()
def tw11961600056779412135:=()
def tw9302597331985269052:=()
def tw885064950542016157:=()
def tw14885566928281072158:=()
def tw17292178629794949890:=()
def tw9806250480010890475:=()
def tw3003497820355009239:=()
def tw9296823810678839997:=()
def tw10819558446533272219:=()
def tw342305643265416359:=()
def tw987555281605954428:=()
def tw6616085572305545122:=()
def tw9470376113833822604:=()
def tw15440889729182731349:=()
def tw10137456249548575288:=()
def tw5324590414112368856:=()
def tw11111339975621664840:=()
def tw4847395271012565238:=()
def tw7819310541079715391:=()
def tw11764935765333058168:=()
def tw10612836182088553032:=()
def tw16868234415694685148:=()
def tw12301113499653037951:=()
def tw3820288495353055040:=()
def tw14625470300421776059:=()
def tw935887193017649331:=()
def tw14723427256318224498:=()
def tw377120540980891741:=()
def tw483427637883590064:=()
def tw18272195400815561187:=()
def tw8202433127893092462:=()
def tw4875595549635974958:=()
def tw13706143190008019089:=()
def tw16431702792559279069:=()
def tw13021463986010264474:=()
def tw16915534987900711029:=()
def tw8240592512166648500:=()
def tw395816530452413864:=()
def tw7331606215887352632:=()
def tw4792770206575043920:=()
def tw7859415597001050678:=()
def tw12577769236489525467:=()
def tw4203447347406856074:=()
def tw499961878876946297:=()
def tw16209316375340704692:=()
def tw15333990664305805614:=()
def tw14218313350958709824:=()
def tw211769128075615428:=()
def tw6150106102347707012:=()
def tw18338374386583983588:=()
def tw14503317299471940270:=()
def tw10913464520033826626:=()
def tw16645578401287125614:=()
def tw12089526381317459254:=()
def tw1819517602314754230:=()
def tw9472375219580823176:=()
def tw1798850694415380078:=()
def tw2427088216279198261:=()
def tw13701925210907424465:=()
def tw14045542896422560647:=()
def tw12191072885657648089:=()
def tw5937199605879432506:=()
def tw16298323440697127900:=()
def tw7083455190198106269:=()
def tw2248092219129819146:=()
end PySem.W.Fast
open PySem PySem.W PyProof.Rows
set_option maxRecDepth 100000 in
set_option maxHeartbeats 0 in
theorem PySem.Challenge.cw_sealchain_k42_what_is_judged_holds : PySem.Challenge.rw_sealchain_k42_what_is_judged.Holds := by
 w_on; o_law; k_head; (case hw => w_witness2)
 k_fill
 refine' DL.walkD (l := PySem.Challenge.rw_sealchain_k42_what_is_judged) (k := 18) (x := ("_law_script" : PySem.Str)) (f := Lw.F_law) (L := [(("in_order" : PySem.Str), ?t0), (("has_seal" : PySem.Str), ?t1), (("is_first_death" : PySem.Str), ?t2), (("bases_by" : PySem.Str), ?t3)]) rfl rfl ⟨rfl, by decide, by decide⟩ (fun w h Y => PySem.W.km_in_of Y) ?T ?D ?F Lw.law_true
 case T =>
  intro w
  refine' DL.tabs_fit ?h0 ?h1 ?h2 ?h3 ?ap ?nt
  (case h0 => refine' DL.tab_yes ?a ?l ?c ?m ?v; (case a => k_is); (case l => k_is); (case c => exact rfl); (case m => k_is); (case v => exact rfl))
  (case h1 => refine' DL.tab_yes ?a ?l ?c ?m ?v; (case a => k_is); (case l => k_is); (case c => exact rfl); (case m => k_is); (case v => exact rfl))
  (case h2 => refine' DL.tab_yes ?a ?l ?c ?m ?v; (case a => k_is); (case l => k_is); (case c => exact rfl); (case m => k_is); (case v => exact rfl))
  (case h3 => refine' DL.tab_yes ?a ?l ?c ?m ?v; (case a => k_is); (case l => k_is); (case c => exact rfl); (case m => k_is); (case v => exact rfl))
  (case ap => decide)
  (case nt => kernel_rfl)
 case D => kernel_rfl
 case F =>
  intro w mg fa h KX G hmg
  refine' Lw.head ⟨⟨h, KX, G⟩, ?d0, ?d1, ?d2, ?d3, ?d4, ?d5, ?d6, ?d7, ?d8, ?d9, ?d10, ?d11, ?d12, ?d13, ?d14, ?d15, ?d16, ?d17, ?d18, ?d19, ?d20, ?d21, ?d22, ?d23, ?d24, ?d25, ?d26, ?d27, ?d28, ?d29, ?d30, ?d31, ?d32, ?d33, ?d34, ?d35, ?d36, ?d37, ?d38, ?d39, ?d40, ?d41, ?d42, ?d43, ?d44, ?d45, ?d46, ?d47, ?d48, ?d49, ?d50, ?d51, ?d52, ?d53, ?d54, ?d55, ?d56, ?d57, ?d58, ?d59, ?d60, ?d61, ?d62, ?d63, ?d64, ?d65, ?d66, ?d67, ?d68, ?d69, ?d70, ?d71, ?d72, ?d73, ?d74, ?d75, ?d76, ?d77, ?d78, ?d79, ?d80, ?d81, ?d82, ?d83, ?d84, ?d85, ?d86, PySem.W.mg_none_of KX G ?z0, PySem.W.mg_none_of KX G ?z1, PySem.W.mg_none_of KX G ?z2, PySem.W.mg_none_of KX G ?z3, PySem.W.mg_none_of KX G ?z4, PySem.W.mg_none_of KX G ?z5, PySem.W.mg_none_of KX G ?z6, PySem.W.mg_none_of KX G ?z7, PySem.W.mg_none_of KX G ?z8, PySem.W.mg_none_of KX G ?z9, PySem.W.mg_none_of KX G ?z10, PySem.W.mg_none_of KX G ?z11, PySem.W.mg_none_of KX G ?z12, PySem.W.mg_none_of KX G ?z13, PySem.W.mg_none_of KX G ?z14, PySem.W.mg_none_of KX G ?z15, PySem.W.mg_none_of KX G ?z16, PySem.W.mg_none_of KX G ?z17, DL.kc_of KX G ?k0, DL.kc_of KX G ?k1, DL.kc_of KX G ?k2, DL.kc_of KX G ?k3, DL.kc_of KX G ?k4, DL.kc_of KX G ?k5, DL.kc_of KX G ?k6, DL.kc_of KX G ?k7, DL.kd_of KX G ?k8, DL.kc_of KX G ?k9, DL.kc_of KX G ?k10, DL.kc_of KX G ?k11, ?q0, ?q1, ?q2, ?q3⟩ hmg
  iterate 82 (refine' DL.def_mk ?a ?l ?c ?k; (case a => k_is); (case l => k_is); (case c => k_is); (case k => k_is))
  (case d82 => refine' DL.defD_mk ?a ?l ?c ?k ?t; (case a => k_is); (case l => k_is); (case c => k_is); (case k => k_is); (case t => k_is))
  iterate 4 (refine' DL.def_mk ?a ?l ?c ?k; (case a => k_is); (case l => k_is); (case c => k_is); (case k => k_is))
  (case z0 => k_is)
  (case z1 => k_is)
  (case z2 => k_is)
  (case z3 => k_is)
  (case z4 => k_is)
  (case z5 => k_is)
  (case z6 => k_is)
  (case z7 => k_is)
  (case z8 => k_is)
  (case z9 => k_is)
  (case z10 => k_is)
  (case z11 => k_is)
  (case z12 => k_is)
  (case z13 => k_is)
  (case z14 => k_is)
  (case z15 => k_is)
  (case z16 => k_is)
  (case z17 => k_is)
  (case k0 => refine' DL.const_int ?e; (case e => k_is))
  (case k1 => refine' DL.const_int ?e; (case e => k_is))
  (case k2 => refine' DL.const_int ?e; (case e => k_is))
  (case k3 => refine' DL.const_int ?e; (case e => k_is))
  (case k4 => refine' DL.const_int ?e; (case e => k_is))
  (case k5 => refine' DL.const_int ?e; (case e => k_is))
  (case k6 => refine' DL.const_int ?e; (case e => k_is))
  (case k7 => refine' DL.const_tup ?e ?l ?v; (case e => k_is); (case l => k_is); (case v => decide +kernel))
  (case k8 => refine' DL.const_dict ?e ?l ?r ?s; (case e => k_is); (case l => k_is); (case r => refine' (DL.CRows.tup rfl ?l0 ?f0 (DL.CRows.tup rfl ?l1 ?f1 (DL.CRows.tup rfl ?l2 ?f2 (DL.CRows.tup rfl ?l3 ?f3 (DL.CRows.tup rfl ?l4 ?f4 (DL.CRows.tup rfl ?l5 ?f5 (DL.CRows.tup rfl ?l6 ?f6 (DL.CRows.tup rfl ?l7 ?f7 (DL.CRows.tup rfl ?l8 ?f8 (DL.CRows.tup rfl ?l9 ?f9 (DL.CRows.tup rfl ?l10 ?f10 (DL.CRows.tup rfl ?l11 ?f11 DL.CRows.nil)))))))))))); (case l0 => k_is); (case f0 => decide +kernel); (case l1 => k_is); (case f1 => decide +kernel); (case l2 => k_is); (case f2 => decide +kernel); (case l3 => k_is); (case f3 => decide +kernel); (case l4 => k_is); (case f4 => decide +kernel); (case l5 => k_is); (case f5 => decide +kernel); (case l6 => k_is); (case f6 => decide +kernel); (case l7 => k_is); (case f7 => decide +kernel); (case l8 => k_is); (case f8 => decide +kernel); (case l9 => k_is); (case f9 => decide +kernel); (case l10 => k_is); (case f10 => decide +kernel); (case l11 => k_is); (case f11 => decide +kernel)); (case s => decide +kernel))
  (case k9 => refine' DL.const_tup ?e ?l ?v; (case e => k_is); (case l => k_is); (case v => decide +kernel))
  (case k10 => refine' DL.const_tup ?e ?l ?v; (case e => k_is); (case l => k_is); (case v => decide +kernel))
  (case k11 => refine' DL.const_tup ?e ?l ?v; (case e => k_is); (case l => k_is); (case v => decide +kernel))
  (case q0 => refine' DL.lam_mk ?a ?l ?c ?m ?v1 ?v2 ?v3 ?v4 ?v5 ?v6 ?v7; (case a => k_is); (case l => k_is); (case c => exact rfl); (case m => k_is); (case v1 => exact rfl); (case v2 => exact rfl); (case v3 => exact rfl); (case v4 => exact rfl); (case v5 => exact rfl); (case v6 => exact rfl); (case v7 => decide))
  (case q1 => refine' DL.lam_mk ?a ?l ?c ?m ?v1 ?v2 ?v3 ?v4 ?v5 ?v6 ?v7; (case a => k_is); (case l => k_is); (case c => exact rfl); (case m => k_is); (case v1 => exact rfl); (case v2 => exact rfl); (case v3 => exact rfl); (case v4 => exact rfl); (case v5 => exact rfl); (case v6 => exact rfl); (case v7 => decide))
  (case q2 => refine' DL.lam_mk ?a ?l ?c ?m ?v1 ?v2 ?v3 ?v4 ?v5 ?v6 ?v7; (case a => k_is); (case l => k_is); (case c => exact rfl); (case m => k_is); (case v1 => exact rfl); (case v2 => exact rfl); (case v3 => exact rfl); (case v4 => exact rfl); (case v5 => exact rfl); (case v6 => exact rfl); (case v7 => decide))
  (case q3 => refine' DL.lam_mk ?a ?l ?c ?m ?v1 ?v2 ?v3 ?v4 ?v5 ?v6 ?v7; (case a => k_is); (case l => k_is); (case c => exact rfl); (case m => k_is); (case v1 => exact rfl); (case v2 => exact rfl); (case v3 => exact rfl); (case v4 => exact rfl); (case v5 => exact rfl); (case v6 => exact rfl); (case v7 => decide))

