import PyProof.Rows.All
import Wide.All
import OpenK.AllK
import Wide.FinOn
import Lean
import PyProof.EqAt
import PyProof.EqKinds
import PyProof.TupleCall
import PyProof.AttrMissHeap
import PySem.Challenge.RW_sealchain_k43_whole_copies_hold_as_paper
set_option Elab.async false
set_option linter.all false
set_option maxRecDepth 100000
set_option bootstrap.genMatcherCode false
set_option compiler.extract_closed false
set_option maxHeartbeats 40000000
def mY {α:Type _}{a:α}(l:List α){k:List α}(h:a∈k):a∈l++k:=List.mem_append_right l h
def mZ {α:Type _}(b:α){a:α}{l:List α}(h:a∈l):a∈b::l:=List.mem_cons_of_mem b h
def mX {α:Type _}{a:α}{l:List α}:a∈a::l:=List.mem_cons_self
def oX {α G:Type _}{o:Option α}{f:α->Option G}{b:G}(h:o.bind f=some b):∃a,o=some a/\f a=some b:=Option.bind_eq_some_iff.mp h
def oY {α G:Type _}{f:α->G}{o:Option α}{b:G}(h:o.map f=some b):∃a,o=some a/\f a=b:=Option.map_eq_some_iff.mp h
def wX:=@PySem.wpAny_bind
def wY:=@PySem.wpAny_pure
def vZ:=@PySem.Heap.get?_push_of_some
def vY:=@PySem.Heap.get?_push_size
def vX:=@PySem.Heap.lt_size
def vW:=@PySem.Heap.SameBut.update
def vV {α:Type _}{l:List α}{i:Nat}{a:α}(h:l[i]? = some a):∃h:i<l.length,l[i]=a:=List.getElem?_eq_some_iff.mp h
def vU {α:Type _}{l:List α}{i:Nat}(h:i<l.length):l[i]? = some l[i]:=List.getElem?_eq_getElem h
def vT (n:Nat):n<=n:=Nat.le_refl n
def vS {a b:Nat}(h:a<b):a≠b:=Nat.ne_of_lt h
def vR {n m k:Nat}:n<=m->m<=k->n<=k:=Nat.le_trans
def vQ {n m k:Nat}:n<m->m<=k->n<k:=Nat.lt_of_lt_of_le
def vP {α:Type _}{a b:α}{l:List α}(h:b∈a::l):b=a\/b∈l:=List.mem_cons.mp h
def vO {α G:Type _}{b:G}{f:α->G}{l:List α}(h:b∈l.map f):∃a,a∈l/\f a=b:=List.mem_map.mp h
def vN {α:Type _}{a:α}{p:α->Bool}{l:List α}(h:a∈l.filter p):a∈l/\p a=true:=List.mem_filter.mp h
def vM {α:Type _}(p:α->Bool)(l:List α):(l.filter p).length<=l.length:=List.length_filter_le p l
def vL {α:Type _}{l:List α}{i:Nat}{a:α}(h:l[i]? = some a):a∈l:=List.mem_of_getElem? h
def vK {α:Type _}{a b:α}(h:some a=some b):a=b:=Option.some.inj h
def vJ {α G:Type _}(a:α)(f:α->Option G):(some a).bind f=f a:=rfl
def vI {α M:Type _}{G:List α}(f:α->M):(G.map f).length=G.length:=List.length_map f
def vH {α:Type _}{l:List α}:l.toArray.size=l.length:=rfl
def vG {α:Type _}{xs:Array α}:xs.toList.length=xs.size:=rfl
def vF {α:Type _}{l:List α}{i:Nat}{a:α}:l.getD i a=l[i]?.getD a:=List.getD_eq_getElem?_getD
def vE {α:Type _}{a:α}{G:List α}:(a::G).length=G.length+1:=rfl
def vC (a b:Bool):((a && b)=true)=(a=true/\b=true):=Bool.and_eq_true a b
def vB {α:Type _}{i j:Nat}{a:α}{l:List α}(h:i≠j):(l.set i a)[j]? = l[j]?:=List.getElem?_set_ne h
def vA {α G:Type _}{f:α->G}{l:List α}{i:Nat}:(l.map f)[i]? = Option.map f l[i]?:=List.getElem?_map
def uZ {α:Type _}{G bs:List α}:(G++bs).length=G.length+bs.length:=List.length_append
def uY {α G:Type _}{f:α->G}{a:α}{l:List α}:(a::l).map f=f a::l.map f:=rfl
def uX:false≠true:=Bool.false_ne_true
def uW {α M:Type _}{f:α->M}{l G:List α}:(l++G).map f=l.map f++G.map f:=List.map_append
def uV:(false=true)=False:=Bool.false_eq_true
def uU {α:Type _}{x:Option α}(h:x.isSome=true):∃a,x=some a:=Option.isSome_iff_exists.mp h
def uT {α:Type _}{a b:α}(h:a∈[b]):a=b:=List.mem_singleton.mp h
def uS {α G:Type _}{b:G}{f:α->G}{l:List α}(h:∃a,a∈l/\f a=b):b∈l.map f:=List.mem_map.mpr h
def uR {α:Type _}{l:List α}{p:α->Bool}(h:l.all p=true):∀x∈l,p x=true:=List.all_eq_true.mp h
def uQ {α:Type _}(G:List α):G++[]=G:=List.append_nil G
def uP {α G M:Type _}{g:G->M}{f:α->G}{l:List α}:(l.map f).map g=l.map (g ∘ f):=List.map_map
def uN (n:Nat):0<=n:=Nat.zero_le n
def As {p:Prop}[Decidable p](h:p):decide p=true:=decide_eq_true h
def Qn {p:Prop}[Decidable p](h:¬p):decide p=false:=decide_eq_false h
def Qs {p:Prop}[Decidable p](h:decide p=true):p:=of_decide_eq_true h
noncomputable section
abbrev PySem.Shared.z (s:PySem.Shared):=s.heap.objs.size
open PySem.W (Frag kia_one fnOf nsIn mg_of)
open List (mem_filter mem_range mem_append mem_append_left mem_filterMap nodup_cons of_mem_zip length_take getElem?_append_right getElem?_replicate getElem?_append_left take_sublist length_replicate length_drop all_cons any_cons length_singleton map_nil find?_cons length_nil nodup_nil length_set forIn_cons lookup_cons append_assoc not_mem_nil length_range mem_singleton forIn_nil lookup_cons_self getElem_mem nodup_append foldl_cons foldl_append getElem?_cons_succ take_add_one mem_cons getElem?_eq_none ext_getElem? not_lt le_trans le_antisymm pairwise_cons lt_irrefl lt_trans nil_perm filter_cons cons_lt_cons_iff cons_append zip_cons_cons getD_cons_succ getElem_map getElem?_zip_eq_some mem_iff_getElem? length_zip zipWith_cons_cons take_length all_eq_true all_nil length_zipIdx zip_map' filter_sublist pairwise_map map_id any_eq_true map_take map_drop)
open Nat (le_of_lt ne_of_gt le_of_eq lt_succ_self le_succ lt_of_le_of_lt le_add_right lt_succ_of_lt)
open Bool (beq_eq_decide_eq eq_false_iff or_eq_true)
open Int (toNat_natCast le_refl)
open Array (toList_push getElem?_toList getD_eq_getD_getElem? getElem?_eq_getElem toList_inj)
open Option (getD_none isSome_map isNone_some map_some)
open PySem.F (slot_tuple_add entry_tuple_add args_tuple_add_2 slot_dict_get entry_dict_get plainAttrs_dict plainAttrs_list slot_tuple_iterator_next slot_zip_next entry_zip_next args_zip_next_1 plain_set_new called_set slot_set_iter plain_extend_loop slot_tuple_lt slot_tuple_gt slot_list_getattribute)
abbrev QV:=PySem.Value->PySem.Shared->Prop
abbrev AO:=List (PySem.Addr×PySem.Obj)
abbrev SV:=PySem.Str->Option PySem.Value
abbrev LU:=List PySem.Value
abbrev AV:=Array PySem.Value
abbrev LS:=List PySem.Str
abbrev QD:=List PySem.Expr
abbrev LN:=List Nat
abbrev LI:=List Int
abbrev OI:=Option Int
namespace L2
open PySem PySem.Spec PyProof.Rows
abbrev eK:=Sum Int Str
noncomputable def ua:eK->Value->Bool
 |.inl k,v=>Value.isInt k v
 |.inr x,v=>Value.isStrOf x v
noncomputable def R7 (w:World):eK->Int
 |.inl k=>hashInt k
 |.inr x=>hashStr w x
theorem cL:∀ {k:eK}{v:Value},ua k v=true->(∃i t,k=Sum.inl i/\v=Value.int i t)\/(∃x t,k=Sum.inr x/\v=Value.str x t)
 |.inl i,v,h=>by
  obtain⟨t,e⟩:=Value.isInt_shape (k:=i) (v:=v) h;exact .inl ⟨i,t,rfl,e⟩
 |.inr x,v,h=>by
  obtain⟨t,e⟩:=Value.isStrOf_shape (x:=x) (v:=v) h;exact .inr ⟨x,t,rfl,e⟩
def Dy (i:Int)(t:Tok):ua (.inl i) (.int i t)=true:=by simp[ua,Value.isInt]
def Dz (x:Str)(t:Tok):ua (.inr x) (.str x t)=true:=by simp[ua,Value.isStrOf]
def LF (a b:Int):decide ((Sum.inl a:eK)=Sum.inl b)=(a == b):=by
 by_cases e:a=b
 ·subst e;simp
 ·have h:¬(Sum.inl a:eK)=Sum.inl b:=λq=>e (Sum.inl.inj q);rw[Qn h];exact(beq_eq_false_iff_ne.mpr e).symm
def LG (a b:Str):decide ((Sum.inr a:eK)=Sum.inr b)=decide (a=b):=by
 by_cases e:a=b
 ·subst e;simp
 ·have h:¬(Sum.inr a:eK)=Sum.inr b:=λq=>e (Sum.inr.inj q);rw[Qn h,Qn e]
def LH (a:Int)(b:Str):decide ((Sum.inl a:eK)=Sum.inr b)=false:=Qn (λq=>nomatch q)
def LJ (a:Str)(b:Int):decide ((Sum.inr a:eK)=Sum.inl b)=false:=Qn (λq=>nomatch q)
def cy (prog:Program)(w:World):PySem.KeyKind prog w eK where
 is:=ua
 hash:=R7 w
 inj:=λv a b ha hb=>by
  rcases cL ha with⟨i,t,rfl,rfl⟩|⟨x,t,rfl,rfl⟩
  ·rcases cL hb with⟨j,u,rfl,e⟩|⟨y,u,rfl,e⟩
   ·injection e with G _;rw[G]
   ·exact nomatch e
  ·rcases cL hb with⟨j,u,rfl,e⟩|⟨y,u,rfl,e⟩
   ·exact nomatch e
   ·injection e with G _;rw[G]
 byValue:=λk v h=>by
  rcases cL h with⟨i,t,rfl,rfl⟩|⟨x,t,rfl,rfl⟩<;>rfl
 pyHash:=λhv h=>by
  rcases cL hv with⟨i,t,rfl,rfl⟩|⟨x,t,rfl,rfl⟩
  ·exact wpAny_pyHash_int h
  ·exact wpAny_pyHash_str h
 eqBool:=λhu hv h=>by
  rcases cL hu with⟨i,t,rfl,rfl⟩|⟨x,t,rfl,rfl⟩
  ·rcases cL hv with⟨j,u,rfl,rfl⟩|⟨y,u,rfl,rfl⟩
   ·rw[LF]at h;exact wpAny_eqBool_int h
   ·rw[LH]at h;exact SeqAt.EqAt.int_str i t y u _ _ _ _ h
  ·rcases cL hv with⟨j,u,rfl,rfl⟩|⟨y,u,rfl,rfl⟩
   ·rw[LJ]at h;exact SeqAt.EqAt.str_int x t j u _ _ _ _ h
   ·rw[LG]at h;exact wpAny_eqBool_str h
 «strs»:=λk x t v h=>by
  rcases cL h with⟨i,u,rfl,e⟩|⟨y,u,rfl,e⟩
  ·exact nomatch e
  ·injection e with G _;subst G;cases v<;>rfl
def yc (prog:Program)(w:World)(i:Int)(t:Tok):(cy prog w).is (.inl i) (.int i t)=true:=Dy i t
def ye (prog:Program)(w:World)(x:Str)(t:Tok):(cy prog w).is (.inr x) (.str x t)=true:=Dz x t
inductive V where
 |non|bl (b:Bool)|int (i:Int)|str (x:Str)|byt (b:Array UInt8)|flt (b:UInt64)|ref (a:Addr)|ty (n:String)
 deriving DecidableEq
def bf:V->Value->Prop
 |.non,u=>u=Value.none
 |.bl b,u=>u=Value.bool b
 |.int i,u=>∃t,u=Value.int i t
 |.str x,u=>∃t,u=Value.str x t
 |.byt b,u=>∃t,u=Value.bytes b t
 |.flt b,u=>∃t,u=Value.float b t
 |.ref a,u=>u=Value.ref a
 |.ty n,u=>u=Value.type n
abbrev bq:List V->LU->Prop:=Paired bf
def bq.length (r:bq xs us):xs.length=us.length:=Paired.length r
theorem bq.get:∀ {xs:List V}{us:LU}{i:Nat}{x:V},bq xs us->xs[i]? = some x->∃u,us[i]? = some u/\bf x u
 |_,_,_,_,.nil,e=>by simp at e
 |_,_,0,_,.cons r _,e=>by simp at e;subst e;exact⟨_,rfl,r⟩
 |_,_,i+1,x,.cons _ t,e=>by
  obtain⟨u,h1,h2⟩:=bq.get (i:=i) (x:=x) t (by simpa using e);exact⟨u,by simpa using h1,h2⟩
theorem bq.set (r:bf x u):∀ {xs:List V}{us:LU}(i:Nat),bq xs us->bq (xs.set i x) (us.set i u)
 |_,_,_,.nil=>.nil
 |_,_,0,.cons _ t=>.cons r t
 |_,_,i+1,.cons q t=>.cons q (bq.set r i t)
theorem bq.append:∀ {xs ys:List V}{us G:LU},bq xs us->bq ys G->bq (xs++ys) (us++G)
 |_,_,_,_,.nil,s=>s
 |_,_,_,_,.cons r t,s=>.cons r (bq.append t s)
theorem bq.take:∀ {xs:List V}{us:LU}(n:Nat),bq xs us->bq (xs.take n) (us.take n)
 |_,_,0,_=>.nil
 |_,_,_+1,.nil=>.nil
 |_,_,n+1,.cons r t=>.cons r (bq.take n t)
theorem bq.drop:∀ {xs:List V}{us:LU}(n:Nat),bq xs us->bq (xs.drop n) (us.drop n)
 |_,_,0,r=>r
 |_,_,_+1,.nil=>.nil
 |_,_,n+1,.cons _ t=>bq.drop n t
def bq.none_of:∀ {xs:List V}{us:LU}{i:Nat},bq xs us->xs[i]? = none->us[i]? = none:=λ{xs us i} r e=>by
 have h1:=r.length;have h2:xs.length<=i:=List.getElem?_eq_none_iff.mp e;exact List.getElem?_eq_none_iff.mpr (by omega)
def pU:Option V->Option Value->Prop
 |some v,some u=>bf v u
 |none,none=>True
 |_,_=>False
def KV {κ:Type}:List (κ×V)->List (κ×Value)->Prop:=Paired λ(p:κ×V) (q:κ×Value)=>p.1=q.1/\bf p.2 q.2
noncomputable def kV:eK->V
 |.inl i=>.int i
 |.inr x=>.str x
inductive HO where
  |lst (xs:List V)
  |tup (xs:List V)
  |dK (aK:List (eK×V)) (ob:Obj)|dT (aK:List (List eK×V))
  |set (S:Int->Bool) (n:Nat)
  |ins (C dx:Addr) (fs:List (Str×V))
  |own (x:Addr)
  |xd (fs:List (Str×V))
  |met (f x:Addr)
  |rng (lo hi:Int)
  |frz (o:Obj) (u:HO)
  |tbl (q:Str)
  |ext (φ:Heap->Prop)
abbrev Hp:=Addr->Option HO
noncomputable def upd (H:Hp)(a:Addr)(o:HO):Hp:=λb=>if b=a then some o else H b
def aB:upd H a o a=some o:=by unfold upd;rw[if_pos rfl]
def aG (h:b≠a):upd H a o b=H b:=by unfold upd;rw[if_neg h]
def mF:upd (upd H a o) a u=upd H a u:=by
 funext b;unfold upd;split<;>rfl
def Oz {H:Hp}{a b:Addr}{o u:HO}(h:H a=some o)(h':H b=some u)(d:o≠u):a≠b:=by
 intro e;subst e;rw[h]at h';exact d (vK h')
def bg {H:Hp}{a b:Addr}{o:HO}(h:H a=some o)(h':H b=none):a≠b:=by
 intro e;subst e;rw[h]at h';cases h'
section
variable (P:Program) (w:World)
def bI (H:Hp)(h:Heap)(a:Addr):HO->Prop
 |.lst xs=>xs.length<=sizeLine/\∃(its:LU)(n:Nat),bq xs its/\h.get? a=some { cls:=.type "list",data:=.seq its.toArray n }
 |.tup xs=>xs.length<=sizeLine/\∃its:LU,bq xs its/\IsTup h a its.toArray
 |.dK aK ob=>h.get? a=some ob/\aK.length<=sizeLine/\(a == sysModules)=false/\∃vs,KV aK vs/\h.DictOf (cy P w) a vs
 |.dT aK=>aK.length<=sizeLine/\(a == sysModules)=false/\∃xs:List (List eK×Addr×Value),
   Paired (λ(p:List eK×V) (q:List eK×Addr×Value)=>p.1=q.1/\H q.2.1=some (.tup (p.1.map kV))/\bf p.2 q.2.2) aK xs /\
   ∃o es O,h.get? a=some o/\o.ExactDict/\o.data=.dict es O/\es.toList=xs.map (entryOfKey (tupleKind (cy P w)))/\(xs.map (·.1)).Nodup
 |.set S n=>h.SetOf (intKind P w) a S n
 |.ins C dx fs=>H dx=some (.own a)/\fs.length<=1000/\dx≠a/\h.get? a=some (PySem.W.instObj C dx) /\
   ∃mA,h.Ns1 dx mA/\(∀f,pU (fs.lookup f) (mA f))/\PySem.Within mA (fs.map (·.1))
 |.own _=>∃o,h.get? a=some o
 |.xd fs=>∃mA,h.Ns1 a mA/\∀f,pU (fs.lookup f) (mA f)
 |.rng lo hi=>∃t u v,h.get? a=some { cls:=.type "range",data:=.fields #[.int lo t,.int hi u,.int 1 v] }
 |.frz o u=>h.get? a=some o/\bI H h a u
 |.tbl q=>∃ps:AV,h.get? a=some { cls:=.none,data:=.fields ps }/\TriplesOk ps.toList/\∀G M,codeAmong G ps.toList=some M->∃(c:Addr)(oc:Obj)(u:HO)(vs:AV)(t:Tok),M=.ref c/\H c=some (.frz oc u)/\oc.data=.fields vs/\vs[1]? = some (.str q t)
 |.met f x=>h.get? a=some (PySem.W.methodObj (.ref f) (.ref x))
 |.ext φ=>φ h/\(∃o,h.get? a=some o)/\∀h1 h2:Heap,φ h1->(∀o,h1.get? a=some o->h2.get? a=some o)->φ h2
def lJ (H:Hp)(h:Heap):Prop:=∀a o,H a=some o->bI P w H h a o
end
section
variable {P:Program}{w:World}{H H':Hp}{h h':Heap}{a:Addr}{o:HO}
def bI.lt (x:bI P w H h a o):a<h.objs.size:=by
 cases o with
 |lst xs=>obtain⟨_,_,_,_,e⟩:=x;exact vX e
 |tup xs=>obtain⟨_,_,_,p⟩:=x;exact p.lt
 |dK aK ob=>exact vX (And.left x)
 |dT aK=>obtain⟨_,_,_,_,o,_,_,e,_⟩:=x;exact vX e
 |set S n=>obtain⟨o,_,_,_,e,_⟩:=x;exact vX e
 |ins C dx fs=>obtain⟨_,_,_,e,_⟩:=x;exact vX e
 |own y=>obtain⟨_,e⟩:=x;exact vX e
 |xd fs=>obtain⟨_,⟨_,_,_,e,_⟩,_⟩:=x;exact vX e
 |rng lo hi=>obtain⟨_,_,_,e⟩:=x;exact vX e
 |frz ob u=>obtain⟨e,_⟩:=x;exact vX e
 |tbl q=>obtain⟨_,e,_⟩:=x;exact vX e
 |met f y=>exact vX (show h.get? a=some _ from x)
 |ext φ=>obtain⟨_,⟨_,e⟩,_⟩:=x;exact vX e
theorem Paired.mapP {α T:Type}{F G:α->T->Prop}:∀ {M:List α}{O:List T},Paired F M O->(∀a b,F a b->G a b)->Paired G M O
 |_,_,.nil,_=>.nil
 |_,_,.cons r t,f=>.cons (f _ _ r) (Paired.mapP t f)
def bI.stay (x:bI P w H h a o)(k:∀b u,(b=a\/H b=some (.own a))->h.get? b=some u->h'.get? b=some u)
  (O:∀b,H b=some (.own a)->H' b=some (.own a)) (T:∀b xs,H b=some (.tup xs)->H' b=some (.tup xs)) (hf:∀b o u,H b=some (.frz o u)->H' b=some (.frz o u)):bI P w H' h' a o:=by
 induction o with
 |lst xs=>obtain⟨z,its,n,r,e⟩:=x;exact⟨z,its,n,r,k _ _ (.inl rfl) e⟩
 |tup xs=>obtain⟨z,its,r,ob,e,c⟩:=x;exact⟨z,its,r,ob,k _ _ (.inl rfl) e,c⟩
 |dK aK U=>obtain⟨g,z,y,vs,r,ob,es,G,e,c⟩:=x;exact⟨k _ _ (.inl rfl) g,z,y,vs,r,ob,es,G,k _ _ (.inl rfl) e,c⟩
 |dT aK=>
  obtain⟨z,y,xs,r,ob,es,G,e,c⟩:=x;exact⟨z,y,xs,Paired.mapP r λp q z=>⟨z.1,T _ _ z.2.1,z.2.2⟩,ob,es,G,k _ _ (.inl rfl) e,c⟩
 |set S n=>obtain⟨ob,es,G,t,e,c⟩:=x;exact⟨ob,es,G,t,k _ _ (.inl rfl) e,c⟩
 |ins C dx fs=>
  obtain⟨d,z,ne,e,mA,⟨od,es,G,e2,c⟩,r⟩:=x;exact⟨O _ d,z,ne,k _ _ (.inl rfl) e,mA,⟨od,es,G,k _ _ (.inr d) e2,c⟩,r⟩
 |own y=>obtain⟨ob,e⟩:=x;exact⟨ob,k _ _ (.inl rfl) e⟩
 |xd fs=>obtain⟨mA,⟨od,es,G,e,c⟩,r⟩:=x;exact⟨mA,⟨od,es,G,k _ _ (.inl rfl) e,c⟩,r⟩
 |rng lo hi=>obtain⟨t,u,v,e⟩:=x;exact⟨t,u,v,k _ _ (.inl rfl) e⟩
 |frz ob u i=>obtain⟨e,q⟩:=x;exact⟨k _ _ (.inl rfl) e,i q⟩
 |tbl q=>obtain⟨ps,e,t,c⟩:=x;exact⟨ps,k a _ (.inl rfl) e,t,λM j z=>let ⟨d,oc,u,vs,tk,l,m,s⟩:=c M j z;⟨d,oc,u,vs,tk,l,hf _ _ _ m,s⟩⟩
 |met f y=>
  have e:h.get? a=some (PySem.W.methodObj (.ref f) (.ref y)):=x;show h'.get? a=some (PySem.W.methodObj (.ref f) (.ref y));exact k a _ (.inl rfl) e
 |ext φ=>obtain⟨p,⟨o,e⟩,st⟩:=x;exact⟨st _ _ p λo q=>k _ _ (.inl rfl) q,⟨o,k _ _ (.inl rfl) e⟩,st⟩
def lJ.lt (x:lJ P w H h)(e:H a=some o):a<h.objs.size:=(x a o e).lt
def lJ.fresh (x:lJ P w H h)(e:h.objs.size<=a):H a=none:=by
 cases q:H a with
 |none=>rfl
 |some u=>exact absurd (vQ (x.lt q) e) (Nat.lt_irrefl _)
def lJ.kept (x:lJ P w H h)(k:∀b u,h.get? b=some u->h'.get? b=some u):lJ P w H h':=λa o e=>
 (x a o e).stay (λb u _ q=>k b u q) (λ_ q=>q) (λ_ _ q=>q) λ_ _ _ q=>q
def lJ.laid (x:lJ P w H h)(k:∀b u,h.get? b=some u->h'.get? b=some u)(hp:h.objs.size<=a)(new:bI P w (upd H a o) h' a o):lJ P w (upd H a o) h':=λb u e=>by
 have hn:=x.fresh hp;by_cases hb:b=a
 ·subst hb;rw[aB]at e;cases e;exact new
 ·rw[aG hb]at e;exact(x b u e).stay (λc v _ q=>k c v q) (λc q=>by rw[aG (bg q hn)];exact q) (λc xs q=>by rw[aG (bg q hn)];exact q) λc o xs q=>by rw[aG (bg q hn)];exact q
end
def Rd (H:Hp)(a:Addr)(u:HO):Prop:=H a=some u\/∃o,H a=some (.frz o u)
def Rd.of (h:H a=some u):Rd H a u:=.inl h
def Rd.ok (r:Rd H a u)(x:lJ P w H h):bI P w H h a u:=by
 rcases r with r|⟨o,r⟩
 ·exact x a u r
 ·obtain⟨_,q⟩:=x a _ r;exact q
def O0:Option HO->Prop
 |some (.lst _)=>True
 |some (.dK _ _)=>True
 |some (.dT _)=>True
 |some (.set _ _)=>True
 |some (.ins _ _ _)=>True
 |some (.ext _)=>True
 |_=>False
section
variable {P:Program}{w:World}{H:Hp}{h h':Heap}{x e:Addr}{o':HO}
def lJ.write (ok:lJ P w H h)(O:O0 (H x))(he:e=x\/H e=some (.own x))(k:∀b u,b≠e->h.get? b=some u->h'.get? b=some u)(U:∃u,h'.get? e=some u)
  (new:bI P w (upd H x o') h' x o'):lJ P w (upd H x o') h':=λb u q=>by
 have M:∀c y,H c=some (.own y)->c≠x:=λc y r z=>by subst z;rw[r]at O;exact O
 have T:∀c xs,H c=some (.tup xs)->c≠x:=λc xs r z=>by subst z;rw[r]at O;exact O
 by_cases hb:b=x
 ·subst hb;rw[aB]at q;cases q;exact new
 ·rw[aG hb]at q;by_cases G:b=e
  ·have a:H b=some (.own x):=by
    rcases he with z|z
    ·exact absurd (G.trans z) hb
    ·rw[G];exact z
   rw[q]at a;cases a;obtain⟨v,hv⟩:=U;exact⟨v,by rw[G];exact hv⟩
  ·refine(ok b u q).stay (λc v hc r=>k c v ?_ r) (λc r=>by rw[aG (M c b r)];exact r) (λc xs r=>by rw[aG (T c xs r)];exact r) λc o xs r=>by rw[aG (λz=>by subst z;rw[r]at O;exact O)];exact r
   rcases hc with rfl|hc
   ·exact G
   ·rintro rfl;rcases he with z|z
    ·exact M c b hc z
    ·rw[hc]at z;cases z;exact hb rfl
end
structure Un (fs ex:List Addr)(H H':Hp)(h h':Heap):Prop where
 keep:∀b o,h.get? b=some o->H b=none->b∉fs->b∉ex->h'.get? b=some o
 slot:∀b o,h.get? b=some o->H b=none->b∈fs->b∉ex->∃sl,h'.get? b=some { o with slots:=sl }
 free:∀b o,h.get? b=some o->H b=none->b∉ex->H' b=none
 there:∀b o,h.get? b=some o->b∉ex->∃o',h'.get? b=some o'
 tups:∀b xs,H b=some (.tup xs)->H' b=some (.tup xs)
 frzs:∀b o u,H b=some (.frz o u)->H' b=some (.frz o u)
 tbls:∀b q,H b=some (.tbl q)->H' b=some (.tbl q)
section
variable {fs S6 ex U6:List Addr}{H H1 H2:Hp}{h h1 h2 h':Heap}{a x e:Addr}{o:HO}
def Un.any (u:Un fs ex H H1 h h1)(q:h.get? b=some ob)(n:H b=none)(hx:b∉ex):∃sl,h1.get? b=some { ob with slots:=sl }:=by
 by_cases hb:b∈fs
 ·exact u.slot b ob q n hb hx
 ·exact⟨ob.slots,u.keep b ob q n hb hx⟩
def Un.trans (a:Un fs ex H H1 h h1)(b:Un fs ex H1 H2 h1 h2):Un fs ex H H2 h h2 where
 keep:=λc ob q n hc hx=>b.keep c ob (a.keep c ob q n hc hx) (a.free c ob q n hx) hc hx
 slot:=λc ob q n hc hx=>by
  obtain⟨sl,G⟩:=a.slot c ob q n hc hx;obtain⟨M,e2⟩:=b.slot c _ G (a.free c ob q n hx) hc hx;exact⟨M,e2⟩
 free:=λc ob q n hx=>by
  obtain⟨o',G⟩:=a.there c ob q hx;exact b.free c o' G (a.free c ob q n hx) hx
 there:=λc ob q hx=>by
  obtain⟨o',G⟩:=a.there c ob q hx;exact b.there c o' G hx
 tups:=λc xs q=>b.tups c xs (a.tups c xs q)
 frzs:=λc ob xs q=>b.frzs c ob xs (a.frzs c ob xs q)
 tbls:=λc ps q=>b.tbls c ps (a.tbls c ps q)
def Un.kept (k:∀b u,h.get? b=some u->h'.get? b=some u):Un fs ex H H h h' :=
 ⟨λb ob q _ _ _=>k b ob q,λb ob q _ _ _=>⟨ob.slots,k b ob q⟩,λ_ _ _ n _=>n,λb ob q _=>⟨ob,k b ob q⟩,λ_ _ q=>q,λ_ _ _ q=>q,λ_ _ q=>q⟩
def Un.refl:Un fs ex H H h h:=Un.kept λ_ _ q=>q
def Un.laid (k:∀b u,h.get? b=some u->h'.get? b=some u)(hp:h.objs.size<=a)(hn:H a=none):Un fs ex H (upd H a o) h h' where
 keep:=λb u q _ _ _=>k b u q
 slot:=λb u q _ _ _=>⟨u.slots,k b u q⟩
 free:=λb u q n _=>by rw[aG (vS (vQ (vX q) hp))];exact n
 there:=λb u q _=>⟨u,k b u q⟩
 tups:=λb xs q=>by rw[aG (bg q hn)];exact q
 frzs:=λb u xs q=>by rw[aG (bg q hn)];exact q
 tbls:=λb ps q=>by rw[aG (bg q hn)];exact q
def Un.write (M:O0 (H x))(he:e=x\/H e=some (.own x))(k:∀b u,b≠e->h.get? b=some u->h'.get? b=some u)(O:∃u,h'.get? e=some u):Un fs ex H (upd H x o) h h':=by
 have hx:∀b,H b=none->b≠x:=λb n z=>by subst z;rw[n]at M;exact M
 have hb:∀b,H b=none->b≠e:=λb n z=>by
  subst z;rcases he with r|r
  ·exact hx b n r
  ·rw[n]at r;cases r
 have hm:∀b u,H b=some u->¬O0 (some u)->b≠x:=λb u q nm z=>by subst z;rw[q]at M;exact nm M
 refine⟨λb u q n _ _=>k b u (hb b n) q,λb u q n _ _=>⟨u.slots,k b u (hb b n) q⟩,λb u q n _=>by rw[aG (hx b n)];exact n,λb u q _=>?_,
  λb xs q=>by rw[aG (hm b _ q λz=>z)];exact q,λb u xs q=>by rw[aG (hm b _ q λz=>z)];exact q,λb ps q=>by rw[aG (hm b _ q λz=>z)];exact q⟩
 by_cases G:b=e
 ·subst G;exact O
 ·exact⟨u,k b u G q⟩
def Un.mono (u:Un fs ex H H1 h h1)(hs:∀b∈fs,b∈S6)(hx:∀b∈ex,b∈U6):Un S6 U6 H H1 h h1 :=
 ⟨λb ob q n hb he=>u.keep b ob q n (λz=>hb (hs b z)) λz=>he (hx b z),λ_ _ q n _ he=>u.any q n λz=>he (hx _ z),λb ob q n he=>u.free b ob q n λz=>he (hx b z),λb ob q he=>u.there b ob q λz=>he (hx b z),u.tups,u.frzs,u.tbls⟩
end
noncomputable def QP (h:Heap)(H:Hp):List Addr:=(List.range h.objs.size).filter λa=>(H a).isSome
def yf (h:Heap)(H:Hp):Heap:=PySem.W.hideAll h (QP h H)
def D0 (h:Heap)(H:Hp):(yf h H).objs.size=h.objs.size:=PySem.W.hideAll_size _ _
def q8 (e:h.get? b=some o)(n:H b=none):(yf h H).get? b=some o :=
 PySem.W.hideAll_get _ e λhm=>by
  have q:(H b).isSome=true:=(vN hm).2;rw[n]at q;simp at q
def Im (e:(yf h H).get? b=some o):h.get? b=some o/\H b=none:=by
 have G:h.get? b=some o:=PySem.W.of_hideAll (QP h H) e;refine⟨G,?_⟩;cases q:H b with
 |none=>rfl
 |some x=>
  have hm:b∈QP h H:=mem_filter.mpr ⟨mem_range.mpr (vX G),by simp[q]⟩;have z:(yf h H).get? b=none:=PySem.W.hideAll_none (QP h H) hm;rw[z]at e;cases e
noncomputable def Io (g h:Heap)(L:Addr):AO:=(List.range h.objs.size).filterMap λa=>if a=L\/(g.get? a).isSome=true then none else (h.get? a).map λo=>(a,o)
def ax (g h:Heap)(L d:Addr):AO:=(Io g h L).filter λp=>decide (p.1≠d)
structure Mod (K:Frag)(mg:Str->Option Value)(base:Heap):Prop where
 kin:K.In base
 glob:base.Ns mainGlobals mg
 blt:∃mb,base.Ns builtinsNs mb/\∀x:Str,x ≠ "__name__"->mb x=bootBuiltins x
 nolimit:base.NoLimit
 bmain:∃bm ob,mg "__builtins__" = some (.ref bm)/\bm≠builtinsNs/\base.get? bm=some ob/\ob.cls=.type "module"/\ob.dict=some builtinsNs/\ob.data=.plain
structure Cx where
 prog:Program
 w:World
 K:Frag
 mg:Str->Option Value
 base:Heap
 A:Around
 N:List Str
 s₀:Shared
 H₀:Hp
 env:Env
 outer:List Env
 stack:List Env
 ex:List Addr
 fn:Str->Bool
 calm:Bool
 pn:List (Addr×Obj)
 xe:Value->Shared->Prop
noncomputable def EK (l:List Env):List Addr:=l.filterMap (·.frame)
abbrev Cx.fs (X:Cx):List Addr:=EK X.outer
def NW (sc:Scope)(x:Str):Prop:=sc.names.lookup x=some .local\/sc.names.lookup x=some .cell\/sc.names.lookup x=some .free
def Ia (sc:Scope)(x:Str):Prop:=sc.names.lookup x=some .local\/sc.names.lookup x=some .cell
def R8 (env:Env)(h:Heap)(m:SV)(x:Str)(u:Value):Prop :=
 (env.kindOf x=some .local/\m x=some u)\/((env.kindOf x=some .cell\/env.kindOf x=some .free)/\∃c,env.cells.lookup x=some c/\h.IsCell c (some u))
abbrev wq {α:Type}(X:Cx):Sem α->(α->Shared->Prop)->(Value->Shared->Prop)->Shared->Prop:=wpAny (model X.prog X.w) X.A
structure Cx.Ok (X:Cx):Prop where
 mod:Mod X.K X.mg X.base
 kind:X.env.scope.kind=.function
 glob:X.env.globals=mainGlobals
 blt:X.env.builtins=builtinsNs
 above:X.s₀.z<=X.env.locals
 inj:∀x y c,X.env.cells.lookup x=some c->X.env.cells.lookup y=some c->x=y
 has:∀x,(X.env.kindOf x=some .cell\/X.env.kindOf x=some .free)->∃c,X.env.cells.lookup x=some c
 cab:∀x c,X.fn x=true->X.env.cells.lookup x=some c->X.s₀.z<=c
 hd:X.calm=true->X.A.handled=none
 frames:X.A.frames=some X.stack
 stk:X.stack=X.outer\/(X.stack=X.env::X.outer/\X.env.frame=some X.env.locals)
 exf:∀b∈X.ex,b≠X.env.locals/\∀x c,X.env.cells.lookup x=some c->c≠b
 bs:∀b o,X.base.get? b=some o->X.s₀.heap.get? b=some o/\X.H₀ b=none
 bsz:X.base.objs.size<=X.s₀.z
 noex:∀b o,X.base.get? b=some o->b∉X.ex
 exfs:∀b∈X.ex,b∉X.fs
 funs:X.s₀.heap.FunFrames X.base X.outer
 frf:∀b∈X.fs,X.H₀ b=none
structure Inv (X:Cx)(ah:List (Addr×Obj))(σ:List (Option V))(H:Hp)(s:Shared):Prop where
 ok:X.Ok
 os:s.os=X.s₀.os
 bare:AllBare s.gens
 base:Un X.fs X.ex X.H₀ H X.s₀.heap s.heap
 loc:∃m,s.heap.Ns X.env.locals m/\∀(i:Nat)(x:Str)(v:V),X.N[i]? = some x->σ[i]? = some (some v)->NW X.env.scope x->∃u,bf v u/\R8 X.env s.heap m x u
 cell:∀x c,X.env.cells.lookup x=some c->∃v,s.heap.IsCell c v
 free:H X.env.locals=none
 freeC:∀x c,X.env.cells.lookup x=some c->H c=none
 pin:∀p∈X.pn++ah,s.heap.get? p.1=some p.2/\H p.1=none/\p.1≠X.env.locals/\p.1∉X.fs/\∀v,p.2.data≠.cell v
 hok:lJ X.prog X.w H s.heap
 len:σ.length=X.N.length
section
variable {X:Cx}{ah:AO}{σ:List (Option V)}{H H':Hp}{s:Shared}{h':Heap}
def Cx.Ok.nofr (ok:X.Ok)(e:X.base.get? b=some o):b∉X.fs:=λhb=>by
 have:=(ok.funs.mem hb).1;rw[e]at this;cases this
def Inv.bs (I:Inv X ah σ H s):∀b o,X.base.get? b=some o->s.heap.get? b=some o/\H b=none:=λb o e=>
 ⟨I.base.keep b o (I.ok.bs b o e).1 (I.ok.bs b o e).2 (I.ok.nofr e) (I.ok.noex b o e),I.base.free b o (I.ok.bs b o e).1 (I.ok.bs b o e).2 (I.ok.noex b o e)⟩
def Inv.bk (I:Inv X ah σ H s):∀b o,X.base.get? b=some o->s.heap.get? b=some o:=λb o e=>(I.bs b o e).1
def Inv.mod (I:Inv X ah σ H s):Mod X.K X.mg X.base:=I.ok.mod
def Inv.kIn (I:Inv X ah σ H s):X.K.In s.heap:=I.ok.mod.kin.keeps I.bk
def Inv.nolimit (I:Inv X ah σ H s):s.heap.NoLimit:=I.ok.mod.nolimit.keeps I.bk
def Inv.lt (I:Inv X ah σ H s):X.env.locals<s.z:=let ⟨_,hn,_⟩:=I.loc;hn.lt
def Inv.sz (I:Inv X ah σ H s):X.s₀.z<=s.z:=vR I.ok.above (le_of_lt I.lt)
def Inv.nofs (I:Inv X ah σ H s)(h:s.z<=a):a∉X.fs:=λhb=>by
 obtain⟨_,o,G,_⟩:=I.ok.funs.mem hb;exact absurd (vQ (vX G) (vR I.sz h)) (Nat.lt_irrefl _)
def Inv.cne (I:Inv X ah σ H s):∀x c,X.env.cells.lookup x=some c->c≠X.env.locals:=λx c e z=>by
 obtain⟨v,o,O,hd⟩:=I.cell x c e;obtain⟨m,⟨o',es,T,G,M,_⟩,_⟩:=I.loc;rw[z,G]at O;cases O;rw[M]at hd;cases hd
def Inv.funs (I:Inv X ah σ H s):s.heap.FunFrames X.base X.outer:=by
 have all:∀(l:List Env),(∀b∈EK l,b∈X.fs)->X.s₀.heap.FunFrames X.base l->s.heap.FunFrames X.base l:=by
  intro l;induction l with
  |nil=>intro _ _;trivial
  |cons env r M=>
   intro hs hl;obtain⟨hk,⟨L,o,hf,hn,O,hd⟩,T⟩:=hl;have G:L∈X.fs:=hs L (by unfold EK;rw[List.filterMap_cons,hf];exact mX);obtain⟨sl,e⟩:=I.base.slot L o O (I.ok.frf L G) G λz=>I.ok.exfs L z G;exact⟨hk,⟨L,_,hf,hn,e,hd⟩,M (λb hb=>hs b (by unfold EK;rw[List.filterMap_cons,hf];exact mZ _ hb)) T⟩
 exact all X.outer (λ_ hb=>hb) I.ok.funs
def Inv.stack (I:Inv X ah σ H s):s.heap.FunFrames X.base X.stack:=by
 rcases I.ok.stk with e|⟨e,hf⟩
 ·rw[e];exact I.funs
 ·rw[e];obtain⟨m,hn,_⟩:=I.loc;refine .cons (by rw[I.ok.kind];decide) hf hn ?_ I.funs;exact Heap.get?_none_of_le (vR I.ok.bsz I.ok.above)
def Inv.stkSub (I:Inv X ah σ H s):∀b∈EK X.stack,b∈X.env.locals::X.fs:=λb hb=>by
 rcases I.ok.stk with e|⟨e,hf⟩
 ·rw[e]at hb;exact mZ _ hb
 ·rw[e]at hb;unfold EK at hb;rw[List.filterMap_cons,hf]at hb;exact hb
def Inv.stkFree (I:Inv X ah σ H s):∀b∈EK X.stack,H b=none:=λb hb=>by
 rcases vP (I.stkSub b hb)with e|hb
 ·rw[e];exact I.free
 ·obtain⟨_,o,G,_⟩:=I.ok.funs.mem hb;exact I.base.free b o G (I.ok.frf b hb) λz=>I.ok.exfs b z hb
def Inv.step {g':Array GenState}{t':Nat}{d':Drawn}{ch:List Addr}(I:Inv X ah σ H s)
  (G:∀b∈ch,(b∈X.ex\/X.s₀.z<=b)/\b≠X.env.locals/\(∀x c,X.env.cells.lookup x=some c->c≠b)/\∀p∈X.pn++ah,p.1≠b)
  (keep:∀b o,b≠X.env.locals->b∉X.fs->b∉ch->s.heap.get? b=some o->H b=none->h'.get? b=some o)
  (slot:∀b o,b≠X.env.locals->b∈X.fs->b∉ch->s.heap.get? b=some o->H b=none->∃sl,h'.get? b=some { o with slots:=sl }) (free:∀b o,b∉ch->s.heap.get? b=some o->H b=none->H' b=none)
  (there:∀b o,b∉ch->s.heap.get? b=some o->∃o',h'.get? b=some o')
  (tups:∀b xs,H b=some (.tup xs)->H' b=some (.tup xs)) (frzs:∀b o u,H b=some (.frz o u)->H' b=some (.frz o u)) (tbls:∀b q,H b=some (.tbl q)->H' b=some (.tbl q))
  (ns:∀m,s.heap.Ns X.env.locals m->h'.Ns X.env.locals m) (hok:lJ X.prog X.w H' h') (h:AllBare g'):
  Inv X ah σ H' { s with heap:=h',gens:=g',drawn:=d',toks:=t' }:=by
 have f:∀b o,X.s₀.heap.get? b=some o->b≠X.env.locals:=λb o e=>vS (vQ (vX e) I.ok.above);have T:∀b o,X.s₀.heap.get? b=some o->b∉X.ex->b∉ch:=λb o e hx hb=>by
  rcases (G b hb).1 with z|z
  ·exact hx z
  ·exact absurd (vQ (vX e) z) (Nat.lt_irrefl _)
 have M:∀x c,X.env.cells.lookup x=some c->∀v,s.heap.IsCell c v->h'.IsCell c v:=λx c e v ⟨o,a,hd⟩=>by
  have O:c∉ch:=λz=>(G c z).2.2.1 x c e rfl;by_cases hc:c∈X.fs
  ·obtain⟨sl,q⟩:=slot c o (I.cne x c e) hc O a (I.freeC x c e);exact⟨_,q,hd⟩
  ·exact⟨o,keep c o (I.cne x c e) hc O a (I.freeC x c e),hd⟩
 refine⟨I.ok,I.os,h,⟨λb o e n hb hx=>?_,λb o e n hb hx=>?_,λb o e n hx=>?_,λb o e hx=>?_,λb xs e=>tups b xs (I.base.tups b xs e),λb o xs e=>frzs b o xs (I.base.frzs b o xs e),λb ps e=>?_⟩,?_,λx c e=>?_,?_,λx c e=>?_,λp hp=>?_,hok,I.len⟩
 ·exact keep b o (f b o e) hb (T b o e hx) (I.base.keep b o e n hb hx) (I.base.free b o e n hx)
 ·obtain⟨sl,U⟩:=I.base.slot b o e n hb hx;obtain⟨j,e2⟩:=slot b _ (f b o e) hb (T b o e hx) U (I.base.free b o e n hx);exact⟨j,e2⟩
 ·obtain⟨o',U⟩:=I.base.there b o e hx;exact free b o' (T b o e hx) U (I.base.free b o e n hx)
 ·obtain⟨o',U⟩:=I.base.there b o e hx;exact there b o' (T b o e hx) U
 ·exact tbls b _ (I.base.tbls b ps e)
 ·obtain⟨m,hn,hl⟩:=I.loc;refine⟨m,ns m hn,λi x v U e2 t=>?_⟩;obtain⟨u,r,l⟩:=hl i x v U e2 t;refine⟨u,r,?_⟩;rcases l with l|⟨k,c,e,z⟩
  ·exact .inl l
  ·exact .inr ⟨k,c,e,M x c e _ z⟩
 ·obtain⟨v,z⟩:=I.cell x c e;exact⟨v,M x c e v z⟩
 ·obtain⟨m,⟨o,_,_,a,_⟩,_⟩:=I.loc;exact free _ o (λz=>(G _ z).2.1 rfl) a I.free
 ·obtain⟨v,o,a,hd⟩:=I.cell x c e;exact free c o (λz=>(G c z).2.2.1 x c e rfl) a (I.freeC x c e)
 ·obtain⟨e,n,ne,g,d⟩:=I.pin p hp;have O:p.1∉ch:=λz=>(G p.1 z).2.2.2 p hp rfl;exact⟨keep p.1 p.2 ne g O e n,free p.1 p.2 O e n,ne,g,d⟩
def Inv.un {t':Nat}(I:Inv X ah σ H s)(u:Un X.fs [] H H' s.heap h')(hok:lJ X.prog X.w H' h'):Inv X ah σ H' { s with heap:=h',toks:=t' }:=by
 obtain⟨m,⟨o,es,c,T,r⟩,_⟩:=id I.loc;obtain⟨sl,U⟩:=u.any T I.free (by simp);exact I.step (g':=s.gens) (d':=s.drawn) (ch:=[]) (λ_ z=>nomatch z) (λb o _ hb _ e n=>u.keep b o e n hb (by simp)) (λb o _ hb _ e n=>u.slot b o e n hb (by simp)) (λb o _ e n=>u.free b o e n (by simp)) (λb o _ e=>u.there b o e (by simp)) u.tups u.frzs u.tbls (λd hm=>by
  obtain⟨o',M,O,G,a⟩:=hm;rw[T]at G;cases G;exact⟨_,M,O,U,a⟩) hok I.bare
def Inv.call {g':Array GenState}{t':Nat}{d':Drawn}{ch:List Addr}(I:Inv X ah σ H s)(u:Un (EK X.stack) ch H H' s.heap h')(hok:lJ X.prog X.w H' h')(d:AllBare g')
  (G:∀b∈ch,(b∈X.ex\/X.s₀.z<=b)/\b≠X.env.locals/\(∀x c,X.env.cells.lookup x=some c->c≠b)/\∀p∈X.pn++ah,p.1≠b):
  Inv X ah σ H' { s with heap:=h',gens:=g',drawn:=d',toks:=t' }:=by
 obtain⟨m,⟨o,es,g,a,r⟩,_⟩:=id I.loc;obtain⟨sl,O⟩:=u.any a I.free λz=>(G _ z).2.1 rfl;exact I.step (ch:=ch) G (λb o O hb hc e n=>u.keep b o e n (λz=>(vP (I.stkSub b z)).elim O hb) hc) (λb o _ _ hc e n=>u.any e n hc) (λb o hc e n=>u.free b o e n hc) (λb o hc e=>u.there b o e hc) u.tups u.frzs u.tbls (λh hm=>by
  obtain⟨o',T,U,M,f⟩:=hm;rw[a]at M;cases M;exact⟨_,T,U,O,f⟩) hok d
def Inv.turned {t':Nat}{it:Addr}(I:Inv X ah σ H s)(k:∀b o,b≠it->s.heap.get? b=some o->h'.get? b=some o)(hn:H it=none)(M:it≠X.env.locals)
  (h1:it∈X.ex\/X.s₀.z<=it) (h2:∀x c,X.env.cells.lookup x=some c->c≠it) (h3:∀p∈X.pn++ah,p.1≠it):Inv X ah σ H { s with heap:=h',toks:=t' }:=by
 have G:∀b u,H b=some u->b≠it:=λb u e z=>by rw[z,hn]at e;cases e
 refine I.step (g':=s.gens) (d':=s.drawn) (ch:=[it]) (λb hb=>?_) (λb o _ _ hc e _=>k b o (λz=>hc (by simp[z])) e) (λb o _ _ hc e _=>⟨o.slots,k b o (λz=>hc (by simp[z])) e⟩) (λ_ _ _ _ n=>n)
  (λb o hc e=>⟨o,k b o (λz=>hc (by simp[z])) e⟩) (λ_ _ e=>e) (λ_ _ _ e=>e) (λ_ _ e=>e) (λm hm=>?_) (λb u e=>?_) I.bare
 ·have e:b=it:=by simpa using hb
  subst e;exact⟨h1,M,h2,h3⟩
 ·obtain⟨o,es,O,T,r⟩:=hm;exact⟨o,es,O,k _ o (Ne.symm M) T,r⟩
 ·refine(I.hok b u e).stay (λc v hc q=>k c v ?_ q) (λ_ q=>q) (λ_ _ q=>q) λ_ _ _ q=>q;rcases hc with z|z
  ·rw[z];exact G b u e
  ·exact G c _ z
def Inv.tok (I:Inv X ah σ H s)(t:Nat):Inv X ah σ H { s with toks:=t }:=I.un (h':=s.heap) (t':=t) Un.refl I.hok
def Inv.kept (I:Inv X ah σ H s)(k:∀b u,s.heap.get? b=some u->h'.get? b=some u):Inv X ah σ H { s with heap:=h',toks:=t' }:=I.un (Un.kept k) (I.hok.kept k)
def Inv.laid (I:Inv X ah σ H s)(k:∀b u,s.heap.get? b=some u->h'.get? b=some u)(hp:s.z<=a)(new:bI X.prog X.w (upd H a o) h' a o):
  Inv X ah σ (upd H a o) { s with heap:=h',toks:=t' }:=I.un (Un.laid k hp (I.hok.fresh hp)) (I.hok.laid k hp new)
def Inv.write (I:Inv X ah σ H s)(M:O0 (H x))(he:e=x\/H e=some (.own x))(k:∀b u,b≠e->s.heap.get? b=some u->h'.get? b=some u)(G:∃u,h'.get? e=some u)
  (new:bI X.prog X.w (upd H x o) h' x o):Inv X ah σ (upd H x o) { s with heap:=h',toks:=t' }:=I.un (Un.write M he k G) (I.hok.write M he k G new)
def Inv.pins_of (I:Inv X ah σ H s)(h:∀p∈G,s.heap.get? p.1=some p.2/\H p.1=none/\p.1≠X.env.locals/\p.1∉X.fs/\∀v,p.2.data≠.cell v):Inv X G σ H s :=
 ⟨I.ok,I.os,I.bare,I.base,I.loc,I.cell,I.free,I.freeC,λp hp=>(mem_append.mp hp).elim (λz=>I.pin p (mem_append_left _ z)) (h p),I.hok,I.len⟩
def yg {N:LS}(G:N.Nodup){i j:Nat}{x:Str}(a:N[i]? = some x)(b:N[j]? = some x):i=j:=by
 obtain⟨h1,M⟩:=vV a;obtain⟨h2,e2⟩:=vV b;exact(List.getElem_inj G).mp (M.trans e2.symm)
def ub {M:Model}{A:Around}{E:QV}{i:Nat}{x:Str}{v:V}{u:Value}{Q:Unit->Shared->Prop}(I:Inv X ah σ H s)(K:X.N.Nodup)(hi:X.N[i]? = some x)(hx:Ia X.env.scope x)(r:bf v u)
  (h:∀s',Inv X ah (σ.set i (some v)) H s'->(∃a,Heap.SameBut a s.heap s'.heap/\(a=X.env.locals\/X.env.cells.lookup x=some a))->Q () s') (hf:X.fn x=true\/X.env.scope.names.lookup x=some .local:=by first|exact .inl rfl|exact .inr rfl|assumption):wpAny M A (storeName X.env x u) Q E s:=by
 obtain⟨m,hn,hl⟩:=id I.loc;have R:(X.env.scope.kind == .class || (X.env.scope.kind == .module && X.env.locals != X.env.globals))=false:=by rw[I.ok.kind];rfl
 have U:i<σ.length:=by rw[I.len];exact(vV hi).1
 have cne:=I.cne;have G:∀ {a:Addr}{h':Heap},(∃o,s.heap.get? a=some o/\H a=none)->Heap.SameBut a s.heap h'->lJ X.prog X.w H h':=λ{a h'} ha hs b ob e=>by
  obtain⟨_,_,T⟩:=ha;refine(I.hok b ob e).stay (λc g hc q=>(hs.2 c ?_).trans q) (λ_ q=>q) (λ_ _ q=>q) λ_ _ _ q=>q;rintro rfl;rcases hc with rfl|hc
  ·rw[T]at e;cases e
  ·rw[T]at hc;cases hc
 rcases hx with hk|hk
 ·refine wpAny_storeName_local hk hn (λh' S hs=>?_) R;obtain⟨W,_,_,Y,_⟩:=id hn;refine h _ ⟨I.ok,I.os,I.bare,⟨λb o e n hb hx=>?_,λb o e n hb hx=>?_,I.base.free,λb o e hx=>?_,I.base.tups,I.base.frzs,I.base.tbls⟩,⟨_,S,λj y t O e2 B=>?_⟩,λy c e=>?_,I.free,I.freeC,λp hp=>?_,G ⟨W,Y,I.free⟩ hs,by simpa using I.len⟩ ⟨_,hs,.inl rfl⟩
  ·exact(hs.2 b (vS (vQ (vX e) I.ok.above))).trans (I.base.keep b o e n hb hx)
  ·obtain⟨sl,O⟩:=I.base.slot b o e n hb hx;exact⟨sl,(hs.2 b (vS (vQ (vX e) I.ok.above))).trans O⟩
  ·obtain⟨o',O⟩:=I.base.there b o e hx;exact⟨o',(hs.2 b (vS (vQ (vX e) I.ok.above))).trans O⟩
  ·by_cases hj:j=i
   ·subst hj;rw[hi]at O;cases O;rw[List.getElem?_set_self U]at e2;cases e2
    exact⟨u,r,.inl ⟨hk,by simp⟩⟩
   ·rw[vB (Ne.symm hj)]at e2;obtain⟨C,D,q⟩:=hl j y t O e2 B;refine⟨C,D,?_⟩;rcases q with⟨k,e⟩|⟨k,c,e,z⟩
    ·refine .inl ⟨k,?_⟩;have:y≠x:=λe=>hj (yg K O (e ▸ hi));simp[this,e]
    ·exact .inr ⟨k,c,e,z.sameBut hs (cne y c e)⟩
  ·obtain⟨g,z⟩:=I.cell y c e;exact⟨g,z.sameBut hs (cne y c e)⟩
  ·obtain⟨e,n,ne,F,d⟩:=I.pin p hp;exact⟨(hs.2 p.1 ne).trans e,n,ne,F,d⟩
 ·have J:X.fn x=true:=by
   rcases hf with z|z
   ·exact z
   ·rw[z]at hk;cases hk
  obtain⟨c,hc⟩:=I.ok.has x (.inl hk);obtain⟨g,z⟩:=I.cell x c hc;refine wpAny_storeName_cell I.ok.kind hk hc z (λh' L hs=>?_);obtain⟨oc,P,Z⟩:=id z;refine h { s with heap:=h' } ⟨I.ok,I.os,I.bare,⟨λb o e n hb hx=>?_,λb o e n hb hx=>?_,I.base.free,λb o e hx=>?_,I.base.tups,I.base.frzs,I.base.tbls⟩,⟨m,hn.sameBut hs (Ne.symm (cne x c hc)),λj y t O e2 B=>?_⟩,λy l e=>?_,I.free,I.freeC,λp hp=>?_,G ⟨oc,P,I.freeC x c hc⟩ hs,by simpa using I.len⟩ ⟨c,hs,.inr hc⟩
  ·exact(hs.2 b (vS (vQ (vX e) (I.ok.cab x c J hc)))).trans (I.base.keep b o e n hb hx)
  ·obtain⟨sl,O⟩:=I.base.slot b o e n hb hx;exact⟨sl,(hs.2 b (vS (vQ (vX e) (I.ok.cab x c J hc)))).trans O⟩
  ·obtain⟨o',O⟩:=I.base.there b o e hx;exact⟨o',(hs.2 b (vS (vQ (vX e) (I.ok.cab x c J hc)))).trans O⟩
  ·by_cases hj:j=i
   ·subst hj;rw[hi]at O;cases O;rw[List.getElem?_set_self U]at e2;cases e2
    exact⟨u,r,.inr ⟨.inl hk,c,hc,L⟩⟩
   ·rw[vB (Ne.symm hj)]at e2;obtain⟨C,D,q⟩:=hl j y t O e2 B;refine⟨C,D,?_⟩;rcases q with q|⟨k,l,e,z'⟩
    ·exact .inl q
    ·refine .inr ⟨k,l,e,z'.sameBut hs ?_⟩;rintro rfl;exact hj (yg K O (I.ok.inj _ _ _ e hc ▸ hi))
  ·by_cases f:l=c
   ·subst f;exact⟨_,L⟩
   ·obtain⟨w2,z2⟩:=I.cell y l e;exact⟨w2,z2.sameBut hs f⟩
  ·obtain⟨e,n,ne,F,d⟩:=I.pin p hp;refine⟨(hs.2 p.1 ?_).trans e,n,ne,F,d⟩;intro q;rw[q,P]at e;have q':oc=p.2:=vK e;exact d g (by rw[<-q'];exact Z)
def yh {M:Model}{A:Around}{E:QV}{i:Nat}{x:Str}{v:V}{u:Value}{Q:Unit->Shared->Prop}(I:Inv X ah σ H s)(G:X.N.Nodup)(hi:X.N[i]? = some x)(hx:Ia X.env.scope x)(r:bf v u)
  (h:∀s',Inv X ah (σ.set i (some v)) H s'->Q () s') (hf:X.fn x=true\/X.env.scope.names.lookup x=some .local:=by first|exact .inl rfl|exact .inr rfl|assumption):wpAny M A (storeName X.env x u) Q E s :=
 ub I G hi hx r (λs' O _=>h s' O) hf
def Inv.call' (I:Inv X ah σ H s)(M:s'.os=s.os)(u:Un (EK X.stack) ch H H' s.heap s'.heap)(hok:lJ X.prog X.w H' s'.heap)(O:AllBare s'.gens)
  (G:∀b∈ch,(b∈X.ex\/X.s₀.z<=b)/\b≠X.env.locals/\(∀x c,X.env.cells.lookup x=some c->c≠b)/\∀p∈X.pn++ah,p.1≠b):Inv X ah σ H' s':=by
 obtain⟨h',g',d',t',o'⟩:=s';have e:o'=s.os:=M;subst e;exact I.call (g':=g') (t':=t') (d':=d') u hok O G
end
abbrev XK:=Value->Option Addr->Hp->Prop
abbrev St:=List (Option V)
abbrev VK:=V->Hp->Prop
abbrev TE:=St->Hp->VK->Prop
abbrev TT:=St->Hp->(Bool->Hp->Prop)->Prop
abbrev TA:=St->Hp->(List V->Hp->Prop)->Prop
structure Ends where
 nx:St->Hp->Prop
 rt:VK
 bk:St->Hp->Prop:=λ_ _=>False
 ct:St->Hp->Prop:=λ_ _=>False
abbrev TS:=Ends->St->Hp->Prop
def EP (X:Cx)(ah:AO)(σ:St)(Q:VK)(u:Value)(s':Shared):Prop:=∃v H',Inv X ah σ H' s'/\bf v u/\Q v H'
def TP (X:Cx)(ah:AO)(σ:St)(Q:Bool->Hp->Prop)(b:Bool)(s':Shared):Prop:=∃H',Inv X ah σ H' s'/\Q b H'
def AP (X:Cx)(ah:AO)(σ:St)(Q:List V->Hp->Prop)(us:LU)(s':Shared):Prop:=∃vs H',Inv X ah σ H' s'/\bq vs us/\Q vs H'
def SP (X:Cx)(ah:AO)(D:Ends)(f:Flow)(s':Shared):Prop :=
 match f with
 |.next=>∃G H',Inv X ah G H' s'/\D.nx G H'
 |.brk=>∃G H',Inv X ah G H' s'/\D.bk G H'
 |.cont=>∃G H',Inv X ah G H' s'/\D.ct G H'
 |.ret u=>∃v G H',Inv X ah G H' s'/\bf v u/\D.rt v H'
def PE (X:Cx)(e:Expr)(t:TE):Prop :=
 ∀(ah:AO)(s:Shared)(σ:St)(H:Hp)(Q:VK),Inv X ah σ H s->t σ H Q->wq X (eval e X.env) (EP X ah σ Q) X.xe s
def PT (X:Cx)(e:Expr)(t:TT):Prop :=
 ∀(ah:AO)(s:Shared)(σ:St)(H:Hp)(Q:Bool->Hp->Prop),Inv X ah σ H s->t σ H Q->wq X (isTrue e X.env (eval e X.env)) (TP X ah σ Q) X.xe s
def PW (X:Cx)(e:Expr)(t:TT):Prop :=
 ∀(G:Sem Value)(ah:AO)(s:Shared)(σ:St)(H:Hp)(Q:Bool->Hp->Prop),Inv X ah σ H s->t σ H Q->wq X (isTrue e X.env G) (TP X ah σ Q) X.xe s
def PW.pt (h:PW X e t):PT X e t:=h _
def PA (X:Cx)(es:QD)(t:TA):Prop :=
 ∀(G:Pos)(ah:AO)(s:Shared)(σ:St)(H:Hp)(Q:List V->Hp->Prop),Inv X ah σ H s->t σ H Q->wq X (spliced (backTo G (starEach es X.env))) (AP X ah σ Q) X.xe s
def PS (X:Cx)(st:Stmt)(t:TS):Prop :=
 ∀(ah:AO)(s:Shared)(σ:St)(H:Hp)(D:Ends),Inv X ah σ H s->t D σ H->wq X (exec st X.env) (SP X ah D) X.xe s
def tI (X:Cx)(st:List Stmt)(t:TS):Prop :=
 ∀(ah:AO)(s:Shared)(σ:St)(H:Hp)(D:Ends),Inv X ah σ H s->t D σ H->wq X (execs st X.env) (SP X ah D) X.xe s
def cA {α:Type}{t:Sem α}{Q G:α->Shared->Prop}{M:Model}{A:Around}{E:QV}{s:Shared}(h:wpAny M A t Q E s)(O:∀a s,Q a s->G a s):wpAny M A t G E s:=wpAny_mono h O λ_ _ x=>x
section
variable {X:Cx}
def pV (i:Nat):TE:=λσ H Q=>∃v,σ[i]? = some (some v)/\Q v H
def tC (v:V):TE:=λ_ H Q=>Q v H
def wz (O:X.N[i]? = some x)(hv:NW X.env.scope x)(hd:(x == ("__debug__" : Str))=false:=by decide)(M:(x == ("__classdict__" : Str))=false:=by decide):PE X (.Name x T) (pV i):=by
 intro ah s σ H Q I h;obtain⟨v,e,h⟩:=h;obtain⟨m,hn,hl⟩:=I.loc;obtain⟨u,r,l⟩:=hl i x v O e hv;have iO:EP X ah σ Q u s:=⟨v,H,I,r,h⟩;rcases l with⟨hk,hm⟩|⟨hk,c,hc,G⟩
 ·exact wpAny_Name (wpAny_loadName_local I.ok.kind hk hn hm iO) hd
 ·rcases hk with hk|hk
  ·exact wpAny_Name (wpAny_loadName_cell I.ok.kind hk hc G iO) hd
  ·exact wpAny_Name (wpAny_loadName_free I.ok.kind hk hc G iO M) hd
def LL {i j G}:PE X (.Constant (.int i) j G) (tC (.int i)):=λ_ _ _ H _ I h=>wpAny_Constant_int ⟨.int i,H,I.tok _,⟨_,rfl⟩,h⟩
def O1 {b j G}:PE X (.Constant (.bool b) j G) (tC (.bl b)):=λ_ _ _ H _ I h=>Constant_bool ⟨.bl b,H,I,rfl,h⟩
def LM {j G}:PE X (.Constant .none j G) (tC .non):=λ_ _ _ H _ I h=>Constant_none ⟨.non,H,I,rfl,h⟩
def LO {x j G}:PE X (.Constant (.str x) j G) (tC (.str x)):=λ_ _ _ H _ I h=>Calls.Constant_str ⟨.str x,H,I.tok _,⟨_,rfl⟩,h⟩
def Gl (X:Cx)(x:Str):Prop:=X.env.kindOf x=some .globalImplicit
def w4 {E:QV}{ah:AO}{s:Shared}{σ:St}{H:Hp}{x:Str}{u:Value}{G:Pos}{Q:QV}(I:Inv X ah σ H s)(M:Gl X x)(hm:X.mg x=some u)(h:Q u s)
  (hd:(x == ("__debug__" : Str))=false:=by decide):wq X (eval (.Name x G) X.env) Q E s :=
 Calls.Name_function_global I.ok.kind M (Calls.loadGlobal_global (by rw[I.ok.glob];exact I.mod.glob.keeps I.bk) hm h) hd
def io {E:QV}{ah:AO}{s:Shared}{σ:St}{H:Hp}{x:Str}{u:Value}{G:Pos}{Q:QV}(I:Inv X ah σ H s)(M:Gl X x)(hm:X.mg x=none)(hv:bootBuiltins x=some u)(h:Q u s)
  (hn:x ≠ "__name__":=by decide) (hd:(x == ("__debug__" : Str))=false:=by decide):wq X (eval (.Name x G) X.env) Q E s:=by
 obtain⟨mb,h1,h2⟩:=I.mod.blt;exact Calls.Name_function_global I.ok.kind M (Calls.loadGlobal_builtin (by rw[I.ok.glob];exact I.mod.glob.keeps I.bk) hm (by rw[I.ok.blt];exact h1.keeps I.bk) ((h2 x hn).trans hv) h) hd
def qd (G:Gl X x)(hm:X.mg x=some u)(r:bf v u)(hd:(x == ("__debug__" : Str))=false:=by decide):PE X (.Name x M) (tC v) :=
 λ_ _ _ H _ I h=>w4 I G hm ⟨v,H,I,r,h⟩ hd
def Ip (G:Gl X x)(hm:X.mg x=none)(hv:bootBuiltins x=some u)(r:bf v u)(hn:x ≠ "__name__":=by decide)(hd:(x == ("__debug__" : Str))=false:=by decide):PE X (.Name x M) (tC v) :=
 λ_ _ _ H _ I h=>io I G hm hv ⟨v,H,I,r,h⟩ hn hd
def V5 (ta tb:TE)(k:Int->Int->Hp->Prop):St->Hp->Prop:=λσ H=>ta σ H λx G=>tb σ G λy H2=>∃i j,x=.int i/\y=.int j/\k i j H2
variable {a b:Expr}{ta tb:TE}{pos:Pos}
def PC (X:Cx)(op:CmpOp)(a b:Expr)(t:TE):Prop :=
 ∀(ah:AO)(s:Shared)(σ:St)(H:Hp)(Q:VK),Inv X ah σ H s->t σ H Q ->
  wq X (eval a X.env) (λv G=>wq X (eval b X.env) (λu M=>wq X (compareOp op v u) (EP X ah σ Q) X.xe M) X.xe G) X.xe s
def kj (b:Expr){op:CmpOp}(h:op≠.In)(h2:op≠.NotIn):behindInMarks op b=false:=by
 have G:(op == CmpOp.In)=false:=by cases op<;>first|rfl|exact absurd rfl h
 have e2:(op == CmpOp.NotIn)=false:=by cases op<;>first|rfl|exact absurd rfl h2
 cases b<;>simp[behindInMarks,G,e2]
def R9 (p:Int->Int->Bool)(ta tb:TE):TE:=λσ H Q=>V5 ta tb (λi j H2=>Q (.bl (p i j)) H2) σ H
abbrev LP:TE->TE->TE:=R9 λi j=>decide (i<j)
def tB (t:TE):TT:=λσ H Q=>t σ H λx G=>∃c,x=.bl c/\Q c G
def LQ (h:PC X op a b t)(h1:behindInMarks op b=false:=by first|exact kj _ (by decide) (by decide)|rfl):PE X (.Compare a [op] [b] pos) t:=λah s σ H Q I hw=>wpAny_Compare1 (h ah s σ H Q I hw) h1
def LR {e:Expr}{t:TE}(h:PE X e t)(he:∀G,isTrue e X.env G=(do let v <-G;standAt e.pos;holding [v] (truthy v)):=by intro _;rfl):PT X e (tB t):=by
 intro ah s σ H Q I hw;refine isTrue_plain (cA (h ah s σ H _ I hw) λv s1 ⟨x,M,O,T,U⟩=>?_) (he _);obtain⟨d,rfl,q⟩:=U;cases T
 exact wpAny_truthy_bool ⟨M,O,q⟩
variable {tA Rj:TT}{ax:QD}
def O2 (t u:TT):TT:=λσ H Q=>t σ H λc G=>if c=true then u σ G Q else Q false G
def TR (t u:TT):TT:=λσ H Q=>t σ H λc G=>if c=true then Q true G else u σ G Q
def O3 (t:TT):TT:=λσ H Q=>t σ H λc G=>Q (!c) G
def Iq (ha:PT X a tA):PW X (.BoolOp .And [a] pos) tA:=by
 intro wh ah s σ H Q I h;refine isTrue_and (cA (ha ah s σ H Q I h) λc s1 e=>?_);cases c with
 |true=>exact isTrue_and_nil e
 |false=>exact e
def LW (ha:PT X a tA):PW X (.BoolOp .Or [a] pos) tA:=by
 intro wh ah s σ H Q I h;refine isTrue_or (cA (ha ah s σ H Q I h) λc s1 e=>?_);cases c with
 |false=>exact isTrue_or_nil e
 |true=>exact e
def LX (ha:PT X a tA)(hb:PW X (.BoolOp .And (b::ax) pos) Rj):PW X (.BoolOp .And (a::b::ax) pos) (O2 tA Rj):=by
 intro wh ah s σ H Q I h;refine isTrue_and (cA (ha ah s σ H _ I h) λc s1 ⟨G,M,O⟩=>?_);cases c with
 |true=>exact hb wh ah s1 σ G Q M O
 |false=>exact⟨G,M,O⟩
def O4 (ha:PT X a tA)(hb:PW X (.BoolOp .Or (b::ax) pos) Rj):PW X (.BoolOp .Or (a::b::ax) pos) (TR tA Rj):=by
 intro wh ah s σ H Q I h;refine isTrue_or (cA (ha ah s σ H _ I h) λc s1 ⟨G,M,O⟩=>?_);cases c with
 |true=>exact⟨G,M,O⟩
 |false=>exact hb wh ah s1 σ G Q M O
def LY (ha:PT X a tA):PT X (.UnaryOp .Not a pos) (O3 tA):=by
 intro ah s σ H Q I h;exact isTrue_not (ha ah s σ H (λc G=>Q (!c) G) I h)
def O5 (ta tb:TE):TE:=λσ H Q=>ta σ H λx G=>∃c,x=.bl c/\if c=true then tb σ G Q else Q (.bl false) G
def RB (ta tb:TE):TE:=λσ H Q=>ta σ H λx G=>∃c,x=.bl c/\if c=true then Q (.bl true) G else tb σ G Q
def O6 (ta:TE):TE:=λσ H Q=>ta σ H λx G=>∃c,x=.bl c/\Q (.bl (!c)) G
def LZ {op}(h:PE X a t):PE X (.BoolOp op [a] pos) t:=λah s σ H Q I hw=>BoolOp_one (h ah s σ H Q I hw)
def Ma (ha:PE X a ta)(hb:PE X (.BoolOp .And (b::ax) pos) tb):PE X (.BoolOp .And (a::b::ax) pos) (O5 ta tb):=by
 intro ah s σ H Q I h;refine BoolOp_and (cA (ha ah s σ H _ I h) λv s1 ⟨x,M,O,T,G⟩=>?_);obtain⟨c,rfl,G⟩:=G;cases T
 refine wpAny_truthy_bool ?_;cases c with
 |true=>exact hb ah s1 σ M Q O G
 |false=>exact⟨.bl false,M,O,rfl,G⟩
def O7 (ha:PE X a ta)(hb:PE X (.BoolOp .Or (b::ax) pos) tb):PE X (.BoolOp .Or (a::b::ax) pos) (RB ta tb):=by
 intro ah s σ H Q I h;refine BoolOp_or (cA (ha ah s σ H _ I h) λv s1 ⟨x,M,O,T,G⟩=>?_);obtain⟨c,rfl,G⟩:=G;cases T
 refine wpAny_truthy_bool ?_;cases c with
 |false=>exact hb ah s1 σ M Q O G
 |true=>exact⟨.bl true,M,O,rfl,G⟩
def Mb (ha:PE X a ta):PE X (.UnaryOp .Not a pos) (O6 ta):=by
 intro ah s σ H Q I h;refine UnaryOp_ (cA (ha ah s σ H _ I h) λv s1 ⟨x,M,O,T,G⟩=>?_);obtain⟨c,rfl,G⟩:=G;cases T
 exact not_of (wpAny_truthy_bool ⟨.bl (!c),M,O,rfl,G⟩)
end
def gN (K:Frag)(H:Hp)(a:Addr)(xs:List V):Prop :=
 Rd H a (.lst xs) \/
  ∃(o:Obj)(its:AV)(n:Nat),K.lookup a=some o/\o.cls=.type "list"/\o.dict=none/\o.data=.seq its n/\its.size<=sizeLine/\bq xs its.toList
def iP (K:Frag)(H:Hp)(a:Addr)(xs:List V):Prop :=
 Rd H a (.tup xs) \/
  ∃(o:Obj)(its:AV)(n:Nat),K.lookup a=some o/\o.cls=.type "tuple"/\o.data=.seq its n/\its.size<=sizeLine/\bq xs its.toList
noncomputable def RC:Value->Option V
 |.none=>some .non
 |.bool b=>some (.bl b)
 |.int i _=>some (.int i)
 |.str x _=>some (.str x)
 |.bytes b _=>some (.byt b)
 |.float b _=>some (.flt b)
 |.ref a=>some (.ref a)
 |.type n=>some (.ty n)
 |_=>none
def bf.abs (r:bf x u):RC u=some x:=by
 cases x with
 |non=>cases r;rfl
 |bl _=>cases r;rfl
 |int _=>obtain⟨t,rfl⟩:=r;rfl
 |str _=>obtain⟨t,rfl⟩:=r;rfl
 |byt _=>obtain⟨t,rfl⟩:=r;rfl
 |flt _=>obtain⟨t,rfl⟩:=r;rfl
 |ref _=>cases r;rfl
 |ty _=>cases r;rfl
def bf.inj (r:bf x u)(q:bf y u):x=y:=vK (r.abs.symm.trans q.abs)
theorem bq.inj:∀ {xs ys:List V}{us:LU},bq xs us->bq ys us->xs=ys
 |_,_,_,.nil,.nil=>rfl
 |_,_,_,.cons r t,.cons G t'=>by rw[r.inj G,bq.inj t t']
section
variable {X:Cx}{ah:AO}{σ:St}{H:Hp}{s:Shared}{a:Addr}{xs ys:List V}
def gN.of {K:Frag}(h:H a=some (.lst xs)):gN K H a xs:=.inl (.inl h)
def iP.of {K:Frag}(h:H a=some (.tup xs)):iP K H a xs:=.inl (.inl h)
def Inv.list (I:Inv X ah σ H s)(h:gN X.K H a xs):∃its:LU,bq xs its/\PlainL s.heap a its.toArray/\xs.length<=sizeLine:=by
 rcases h with h|⟨o,its,n,hk,hc,hd,hs,hz,r⟩
 ·obtain⟨z,its,n,r,e⟩:=h.ok I.hok;exact⟨its,r,⟨_,n,e,rfl,rfl,rfl⟩,z⟩
 ·refine⟨its.toList,r,⟨o,n,I.kIn a o hk,hc,hd,by simpa using hs⟩,?_⟩;have e:=r.length;simp only[vG]at e;omega
def Inv.tuple (I:Inv X ah σ H s)(h:iP X.K H a xs):∃its:LU,bq xs its/\IsTup s.heap a its.toArray/\xs.length<=sizeLine:=by
 rcases h with h|⟨o,its,n,hk,hc,hs,hz,r⟩
 ·obtain⟨z,its,r,p⟩:=h.ok I.hok;exact⟨its,r,p,z⟩
 ·refine⟨its.toList,r,⟨o,I.kIn a o hk,hc,n,by simpa using hs⟩,?_⟩;have e:=r.length;simp only[vG]at e;omega
def Inv.list_inj (I:Inv X ah σ H s)(h:gN X.K H a xs)(h':gN X.K H a ys):xs=ys:=by
 obtain⟨its,r,⟨o,n,e,_,_,d⟩,_⟩:=I.list h;obtain⟨its',M,⟨o',O,G,_,_,d'⟩,_⟩:=I.list h';rw[e]at G;cases G;rw[d]at d';injection d' with d1 _;have:its=its':=by simpa using congrArg Array.toList d1
 subst this;exact r.inj M
def Inv.tuple_inj (I:Inv X ah σ H s)(h:iP X.K H a xs)(h':iP X.K H a ys):xs=ys:=by
 obtain⟨its,r,⟨o,e,_,n,d⟩,_⟩:=I.tuple h;obtain⟨its',M,⟨o',G,_,O,d'⟩,_⟩:=I.tuple h';rw[e]at G;cases G;rw[d]at d';injection d' with d1 _;have:its=its':=by simpa using congrArg Array.toList d1
 subst this;exact r.inj M
end
noncomputable abbrev Cx.wish (X:Cx)(E:QV):Cx:={ X with xe:=E }
noncomputable abbrev Cx.nox (X:Cx):Cx:=X.wish λ_ _=>False
def Cx.Ok.wish {X:Cx}(ok:X.Ok)(E:QV):(X.wish E).Ok :=
 ⟨ok.mod,ok.kind,ok.glob,ok.blt,ok.above,ok.inj,ok.has,ok.cab,ok.hd,ok.frames,ok.stk,ok.exf,ok.bs,ok.bsz,ok.noex,ok.exfs,ok.funs,ok.frf⟩
def Cx.Ok.unwish {X:Cx}{E:QV}(ok:(X.wish E).Ok):X.Ok :=
 ⟨ok.mod,ok.kind,ok.glob,ok.blt,ok.above,ok.inj,ok.has,ok.cab,ok.hd,ok.frames,ok.stk,ok.exf,ok.bs,ok.bsz,ok.noex,ok.exfs,ok.funs,ok.frf⟩
section
variable {X:Cx}{ah:AO}{σ:St}{H:Hp}{s:Shared}{E:QV}
def Inv.wish (I:Inv X ah σ H s)(E:QV):Inv (X.wish E) ah σ H s:=⟨I.ok.wish E,I.os,I.bare,I.base,I.loc,I.cell,I.free,I.freeC,I.pin,I.hok,I.len⟩
def Inv.unwish (I:Inv (X.wish E) ah σ H s):Inv X ah σ H s:=⟨I.ok.unwish,I.os,I.bare,I.base,I.loc,I.cell,I.free,I.freeC,I.pin,I.hok,I.len⟩
def SP.unwish (h:SP (X.wish E) ah D f s'):SP X ah D f s':=by
 cases f with
 |next=>obtain⟨G,H',I,q⟩:=h;exact⟨G,H',I.unwish,q⟩
 |brk=>obtain⟨G,H',I,q⟩:=h;exact⟨G,H',I.unwish,q⟩
 |cont=>obtain⟨G,H',I,q⟩:=h;exact⟨G,H',I.unwish,q⟩
 |ret u=>obtain⟨v,G,H',I,r,q⟩:=h;exact⟨v,G,H',I.unwish,r,q⟩
def PE.nox (h:PE X.nox e t):PE X e t:=λah s σ H Q I hw=>
 wpAny_mono (h ah s σ H Q (I.wish _) hw) (λ_ _ ⟨v,H',G,r,q⟩=>⟨v,H',G.unwish,r,q⟩) λ_ _ z=>False.elim z
def PT.nox (h:PT X.nox e t):PT X e t:=λah s σ H Q I hw=>
 wpAny_mono (h ah s σ H Q (I.wish _) hw) (λ_ _ ⟨H',G,q⟩=>⟨H',G.unwish,q⟩) λ_ _ z=>False.elim z
def tI.nox {st:List Stmt}{t:TS}(h:tI X.nox st t):tI X st t:=λah s σ H D I hw=>
 wpAny_mono (h ah s σ H D (I.wish _) hw) (λ_ _ q=>q.unwish) λ_ _ z=>False.elim z
end
section
variable {X:Cx}{st:Stmt}{ax:List Stmt}{t u:TS}{e:Expr}{te:TE}{pos:Pos}
def KU:TS:=λD σ H=>D.nx σ H
def O8 (t u:TS):TS:=λD σ H=>t { D with nx:=u D } σ H
def Ir:tI X [] KU:=λ_ _ σ H _ I h=>wpAny_execs_nil ⟨σ,H,I,h⟩
def EU (h1:PS X st t)(h2:tI X ax u):tI X (st::ax) (O8 t u):=by
 intro ah s σ H D I h;refine wpAny_execs_cons (cA (h1 ah s σ H { D with nx:=u D } I h) λf s1 q=>?_);cases f with
 |next=>
  obtain⟨G,H',M,q⟩:=q;exact h2 ah s1 G H' D M q
 |ret v=>exact q
 |brk=>exact q
 |cont=>exact q
def Iu (h1:PS X st t):tI X [st] t:=by
 intro ah s σ H D I h;refine wpAny_execs_cons (cA (h1 ah s σ H D I h) λf s1 q=>?_);cases f with
 |next=>exact wpAny_execs_nil q
 |ret v=>exact q
 |brk=>exact q
 |cont=>exact q
def O9:TS:=λD σ H=>D.ct σ H
def yi:PS X (.Continue pos) O9:=λ_ _ σ H _ I h=>wpAny_Continue ⟨σ,H,I,h⟩
def Inv.quiet (I:Inv X ah σ H s):interactive X.env=false:=by simp[interactive,I.ok.kind]
def OA (te:TE):TS:=λD σ H=>te σ H λ_ G=>D.nx σ G
def BF (he:PE X e te)(hs:swapsWith e none pos.line X.env=pure false:=by rfl):PS X (.Expr e pos) (OA te):=by
 intro ah s σ H D I h;exact wpAny_Expr_any (cA (he ah s σ H _ I h) λv s1 ⟨x,G,M,T,O⟩=>⟨σ,G,M,O⟩) I.quiet hs
def Mc (te:TE):TS:=λD σ H=>te σ H D.rt
def EV (he:PE X e te):PS X (.Return (some e) pos) (Mc te):=by
 intro ah s σ H D I h;exact wpAny_Return_some (cA (he ah s σ H _ I h) λv s1 ⟨x,G,M,O,T⟩=>⟨x,σ,G,M,O,T⟩)
def OC (c:TT)(t u:TS):TS:=λD σ H=>c σ H λb G=>if b=true then t D σ G else u D σ G
def OD {c:Expr}{a b:List Stmt}{G:TT}(hc:PT X c G)(ha:tI X a t)(hb:tI X b u):PS X (.If c a b pos) (OC G t u):=by
 intro ah s σ H D I h;refine wpAny_If (cA (hc ah s σ H _ I h) λd s1 ⟨M,O,T⟩=>?_);cases d with
 |true=>exact ha ah s1 σ M D O T
 |false=>exact hb ah s1 σ M D O T
end
abbrev TG:=V->St->Hp->(St->Hp->Prop)->Prop
abbrev Md:=List V->St->Hp->(St->Hp->Prop)->Prop
def PG (X:Cx)(G:Expr)(t:TG):Prop :=
 ∀(ah:AO)(s:Shared)(σ:St)(H:Hp)(v:V)(u:Value)(Q:St->Hp->Prop),Inv X ah σ H s->bf v u->t v σ H Q ->
  wq X (assign G X.env u) (λ_ s'=>∃M H',Inv X ah M H' s'/\Q M H') X.xe s
def QQ (X:Cx)(M:QD)(t:Md):Prop :=
 ∀(ah:AO)(s:Shared)(σ:St)(H:Hp)(vs:List V)(us:LU)(Q:St->Hp->Prop),Inv X ah σ H s->bq vs us->t vs σ H Q ->
  wq X (assignInOrder ((assignEach M X.env).map (·.2)) us) (λ_ s'=>∃G H',Inv X ah G H' s'/\Q G H') X.xe s
section
variable {X:Cx}{pos:Pos}
def jW (i:Nat):TG:=λv σ H Q=>Q (σ.set i (some v)) H
def BG (G:X.N.Nodup)(hi:X.N[i]? = some x)(hx:Ia X.env.scope x)(hf:X.fn x=true\/X.env.scope.names.lookup x=some .local:=by first|exact .inl rfl|exact .inr rfl|assumption):PG X (.Name x pos) (jW i):=by
 intro ah s σ H v u Q I r h;exact wpAny_assign_Name (yh I G hi hx r (λs' M=>⟨_,H,M,h⟩) hf)
def OE:Md:=λvs σ H Q=>vs=[]/\Q σ H
def KW (t:TG)(u:Md):Md:=λvs σ H Q=>∃v r,vs=v::r/\t v σ H λG H'=>u r G H' Q
def qe:QQ X [] OE:=by
 intro ah s σ H vs us Q I r h;obtain⟨e,h⟩:=h;subst e;cases r
 exact assignInOrder_nil ⟨σ,H,I,h⟩
def gE {e:Expr}{es:QD}{t:TG}{u:Md}(h1:PG X e t)(h2:QQ X es u)
  (hs:(assignEach (e::es) X.env).map (·.2)=assign e X.env::(assignEach es X.env).map (·.2):=by rfl):QQ X (e::es) (KW t u):=by
 intro ah s σ H vs us Q I r h;obtain⟨v,b,M,h⟩:=h;subst M;cases r with
 |cons r O=>
  rw[hs];refine assignInOrder_cons (cA (h1 ah s σ H _ _ _ I r h) λ_ s1 ⟨G,T,U,a⟩=>?_);exact h2 ah s1 G T _ _ Q U O a
def Me (K:Frag)(n:Nat)(t:Md):TG:=λv σ H Q=>∃a xs,v=.ref a/\iP K H a xs/\xs.length=n/\t xs σ H Q
def w6 (hc:X.calm=true)(h:QQ X es t)
  (hn:(assignEach es X.env).length=n:=by rfl) (G:(assignEach es X.env).findIdx? (·.1)=none:=by rfl):PG X (.Tuple es k pos) (Me X.K n t):=by
 intro ah s σ H v u Q I r hw;obtain⟨a,xs,O,hq,hl,hw⟩:=hw;subst O;cases r
 obtain⟨its,M,T,hz⟩:=I.tuple hq;refine assign_Tuple_tuple (I.ok.hd hc) T (by simp[hn,<-hl,M.length]) G λh' hx=>?_;have U:Inv X ah σ H { s with heap:=h' }:=I.kept (t':=s.toks) λb o e=>hx b o (vS (vX e)) e;exact h ah _ σ H xs _ Q U (by simpa using M) hw
def D1 (G:TE)(g:TG):TS:=λD σ H=>G σ H λx M=>g x σ M D.nx
def wA {i:Nat}{x:Str}{e:Expr}{M:TE}{G:Pos}(O:X.N.Nodup)(hi:X.N[i]? = some x)(hx:Ia X.env.scope x)(he:PE X e M)(hs:swapsWith e (some (.Name x G)) pos.line X.env=pure false:=by rfl)(hf:X.fn x=true\/X.env.scope.names.lookup x=some .local:=by first|exact .inl rfl|exact .inr rfl|assumption):
  PS X (.Assign [.Name x G] e pos) (D1 M (jW i)):=by
 intro ah s σ H D I h;refine wpAny_Assign_Name (cA (he ah s σ H _ I h) λv s1 ⟨y,T,U,a,b⟩=>?_) hs;exact yh U O hi hx a (λs2 c=>⟨_,T,c,b⟩) hf
end
section
variable {X:Cx}{pos:Pos}
def EW (c:TT)(tb:TS):TS:=λD σ H=>∃W:Nat->St->Hp->Prop,(∃m,W m σ H)/\∀m σ H,W m σ H ->
 c σ H λb M=>if b=true then ∃N:St->Hp->Prop,(∀G H',N G H'->∃O,O<m/\W O G H')/\tb { D with nx:=N,ct:=N,bk:=D.nx } σ M else D.nx σ M
def EX {c:Expr}{O:List Stmt}{k:TT}{tb:TS}(hp:PassesOwn (model X.prog X.w) X.A X.env X.xe)(hc:PT X c k)(hb:tI X O tb):PS X (.While c O [] pos) (EW k tb):=by
 intro ah s σ H D I h;obtain⟨W,⟨p,q⟩,T⟩:=h;refine wpAny_While (codeAny_whileLoop (λn s'=>∃U H',Inv X ah U H' s'/\W n U H') ?_ p ⟨σ,H,I,q⟩);rintro n s1 ⟨M,l,r,t⟩;refine wpAny_passesOwn hp (cA (hc ah s1 M l _ r (T n M l t)) λb s2 ⟨H2,m,d⟩=>?_);cases b with
 |true=>
  obtain⟨N,o,d⟩:=d;rw[if_pos rfl];refine wpAny_passesOwn hp (cA (hb ah s2 M H2 _ m d) λf u e=>?_);cases f with
  |next=>
   obtain⟨G,a,g,n3⟩:=e;obtain⟨i,hm,j⟩:=o G a n3;exact⟨i,hm,G,a,g,j⟩
  |cont=>
   obtain⟨G,a,g,n3⟩:=e;obtain⟨i,hm,j⟩:=o G a n3;exact⟨i,hm,G,a,g,j⟩
  |brk=>exact e
  |ret v=>exact e
 |false=>
  rw[if_neg uX];exact wpAny_execs_nil ⟨M,H2,m,d⟩
end
structure It where
 go:Nat->Hp->Prop
 yld:Nat->Hp->V->Hp->Prop
 stop:Nat->Hp->Prop
def md (X:Cx)(ah:AO)(H:Hp)(b:Addr):Prop :=
 H b=none/\b≠X.env.locals/\b∉X.fs/\(b∈X.ex\/X.s₀.z<=b)/\(∀x c,X.env.cells.lookup x=some c->c≠b)/\∀p∈X.pn++ah,p.1≠b
def Inv.fpOk (I:Inv X ah σ H s)(hb:s.z<=b)(hn:H' b=none):md X ah H' b:=by
 refine⟨hn,ne_of_gt (vQ I.lt hb),I.nofs hb,.inr (vR I.sz hb),λx c e z=>?_,λp hp z=>?_⟩
 ·obtain⟨v,q⟩:=I.cell x c e;exact absurd (vQ q.lt (by rw[z];exact hb)) (Nat.lt_irrefl _)
 ·exact absurd (vQ (vX (I.pin p hp).1) (by rw[z];exact hb)) (Nat.lt_irrefl _)
structure Turn (P:Program)(w:World)(K:Frag)(tg:Expr)(J:It)(fp:List Addr)(it:Addr)(tn:Nat->Heap->Prop):Prop where
 mem:it∈fp
 obj:∀i h,tn i h->∀b∈fp,∃o,h.get? b=some o/\∀v,o.data≠.cell v
 keep:∀i h h',tn i h->(∀b∈fp,∀o,h.get? b=some o->h'.get? b=some o)->tn i h'
 item:∀(X:Cx),X.prog=P->X.w=w->X.K=K->X.calm=true->∀(i:Nat)(ah:List (Addr×Obj))(s:Shared)(σ:St)(H:Hp)(E:Value->Shared->Prop),Inv X ah σ H s->(∀b∈fp,md X ah H b)->tn i s.heap->J.go i H ->
  wpAny (model P w) X.A (pyNext (.ref it)) (λr s1=>∃u,r=some u /\
   wpAny (model P w) X.A (letOwnedTupleGo tg (.ref it) u) (λ_ s2=>∃x H',Inv X ah σ H' s2/\bf x u/\J.yld i H x H'/\tn (i+1) s2.heap/\∀b∈fp,H' b=none) E s1) E s
 done:∀(X:Cx),X.prog=P->X.w=w->X.K=K->X.calm=true->∀(i:Nat)(ah:List (Addr×Obj))(s:Shared)(σ:St)(H:Hp)(E:Value->Shared->Prop),Inv X ah σ H s->(∀b∈fp,md X ah H b)->tn i s.heap->J.stop i H ->
  wpAny (model P w) X.A (pyNext (.ref it)) (λr s1=>r=none/\Inv X ah σ H s1) E s
 self:∀(A:Around)(i:Nat)(s:Shared)(Q:Value->Shared->Prop)(E:Value->Shared->Prop),tn i s.heap->Q (.ref it) s->wpAny (model P w) A (pyIter (.ref it)) Q E s
abbrev TI:=St->Hp->(It->Hp->Prop)->Prop
def TU (X:Cx)(ah:AO)(σ:St)(tg:Expr)(R:It->Hp->Prop)(G:Value)(s2:Shared):Prop :=
 ∃(it:Addr)(fp:List Addr)(tn:Nat->Heap->Prop)(J:It)(H':Hp),G=.ref it/\Inv X ah σ H' s2/\Turn X.prog X.w X.K tg J fp it tn/\tn 0 s2.heap/\(∀b∈fp,md X ah H' b)/\R J H'
def PI (X:Cx)(tg G:Expr)(M:TI):Prop :=
 ∀(ah:AO)(s:Shared)(σ:St)(H:Hp)(R:It->Hp->Prop),Inv X ah σ H s->M σ H R ->
  wq X (eval G X.env) (λv s1=>wq X (pyIter v) (TU X ah σ tg R) X.xe s1) X.xe s
def q9 (O:s.heap.get? it=some o)(hc:o.cls=.type n)(hd:o.data=.fields vs)
    (hn:["enumerate","zip","dict_itemiterator","dict_reverseitemiterator","odict_iterator","itertools.zip_longest","itertools.pairwise"].contains n=false) (G:Q () s):wpAny M A (letOwnedTupleGo tg (.ref it) u) Q E s:=by
  unfold letOwnedTupleGo;cases tg<;>first
    |exact wY G
    | (cases u<;>first
        |exact wY G
        | (refine wX (wpAny_load O ?_)
           rw[hc,hd]
           show wpAny M A (if(["enumerate","zip","dict_itemiterator","dict_reverseitemiterator","odict_iterator","itertools.zip_longest","itertools.pairwise"].contains n && vs[0]? == some (rawInt _))=true then _ else _) Q E s
           rw[if_neg (by intro h;rw[hn,Bool.false_and]at h;cases h)]
           exact wY G))
noncomputable def TV (K:Frag)(a:Addr):It :=
 ⟨λi H=>∃xs x,gN K H a xs/\xs[i]? = some x,λi H x H'=>H'=H/\∀xs,gN K H a xs->xs[i]? = some x,λi H=>∃xs,gN K H a xs/\xs.length<=i⟩
noncomputable def TW (K:Frag)(a:Addr):It :=
 ⟨λi H=>∃xs x,iP K H a xs/\xs[i]? = some x,λi H x H'=>H'=H/\∀xs,iP K H a xs->xs[i]? = some x,λi H=>∃xs,iP K H a xs/\xs.length<=i⟩
noncomputable def QR (lo:Int)(n:Nat):It:=⟨λi _=>i<n,λi H x H'=>H'=H/\x=.int (lo+i),λi _=>n<=i⟩
def D2 {P:Program}{w:World}{K:Frag}{tg:Expr}(a it:Addr):Turn P w K tg (TV K a) [it] it (λi h=>h.IsListIter it a i) where
 mem:=by simp
 obj:=λi h st b hb=>by
  have e:b=it:=by simpa using hb
  subst e;obtain⟨o,e,c,d⟩:=st;exact⟨o,e,λv z=>by rw[d]at z;cases z⟩
 keep:=λi h h' st k=>st.at λo e=>k it (by simp) o e
 item:=by
  intro X M hw O hc i ah s σ H E I hf st T;subst M hw O;obtain⟨xs,x,hq,hx⟩:=T;obtain⟨its,U,p,hz⟩:=I.list hq;obtain⟨u,hu,ru⟩:=U.get hx;obtain⟨f0,f1,f2,f3,f4,f5⟩:=hf it (by simp);refine wpAny_pyNext_list_item st p.isList (x:=u) (by simpa using hu) λh' G f=>?_;have g:Inv X ah σ H { s with heap:=h' }:=I.turned (t':=s.toks) (λb o hb e=>(f.2 b hb).trans e) f0 f1 f3 f4 f5;obtain⟨o,e,c,d⟩:=id G;exact⟨u,rfl,q9 (s:={ s with heap:=h' }) e c d (by decide) ⟨x,H,g,ru,⟨rfl,λys hy=>by rw[I.list_inj hy hq];exact hx⟩,G,λb hb=>(hf b hb).1⟩⟩
 done:=by
  intro X M hw O hc i ah s σ H E I hf st T;subst M hw O;obtain⟨xs,hq,hx⟩:=T;obtain⟨its,U,p,hz⟩:=I.list hq;obtain⟨f0,f1,f2,f3,f4,f5⟩:=hf it (by simp);have hl:=U.length;exact wpAny_pyNext_list_end (I.ok.hd hc) st p.isList (by simp;omega) λh' j=>⟨rfl,I.turned (t':=s.toks) (λb o hb e=>j b o hb e) f0 f1 f3 f4 f5⟩
 self:=λ_ _ _ _ _ st h=>wpAny_pyIter_listiter st h
def Ay {P:Program}{w:World}{K:Frag}{tg:Expr}(a it:Addr):Turn P w K tg (TW K a) [it] it (λi h=>h.IsTupleIter it a i) where
 mem:=by simp
 obj:=λi h st b hb=>by
  have e:b=it:=by simpa using hb
  subst e;obtain⟨o,e,c,d⟩:=st;exact⟨o,e,λv z=>by rw[d]at z;cases z⟩
 keep:=λi h h' st k=>st.at λo e=>k it (by simp) o e
 item:=by
  intro X M hw O hc i ah s σ H E I hf st T;subst M hw O;obtain⟨xs,x,hq,hx⟩:=T;obtain⟨its,U,p,hz⟩:=I.tuple hq;obtain⟨u,hu,ru⟩:=U.get hx;obtain⟨f0,f1,f2,f3,f4,f5⟩:=hf it (by simp);refine wpAny_pyNext_tuple_item st (show s.heap.IsTuple a its.toArray from p) (x:=u) (by simpa using hu) λh' G f=>?_;have g:Inv X ah σ H { s with heap:=h' }:=I.turned (t':=s.toks) (λb o hb e=>(f.2 b hb).trans e) f0 f1 f3 f4 f5;obtain⟨o,e,c,d⟩:=id G;exact⟨u,rfl,q9 (s:={ s with heap:=h' }) e c d (by decide) ⟨x,H,g,ru,⟨rfl,λys hy=>by rw[I.tuple_inj hy hq];exact hx⟩,G,λb hb=>(hf b hb).1⟩⟩
 done:=by
  intro X M hw O hc i ah s σ H E I hf st T;subst M hw O;obtain⟨xs,hq,hx⟩:=T;obtain⟨its,U,p,hz⟩:=I.tuple hq;obtain⟨f0,f1,f2,f3,f4,f5⟩:=hf it (by simp);have hl:=U.length;exact wpAny_pyNext_tuple_end (I.ok.hd hc) st (show s.heap.IsTuple a its.toArray from p) (by simp;omega) λh' j=>⟨rfl,I.turned (t':=s.toks) (λb o hb e=>j b o hb e) f0 f1 f3 f4 f5⟩
 self:=λ_ _ _ _ _ st h=>wpAny_pyIter_tupleiter st h
def Az {P:Program}{w:World}{K:Frag}{tg:Expr}(it:Addr)(lo:Int)(n:Nat):Turn P w K tg (QR lo n) [it] it (λi h=>IsRangeIter h it (lo+(i:Nat)*1) ((n:Int) - (i:Nat)) 1) where
 mem:=by simp
 obj:=λi h st b hb=>by
  have e:b=it:=by simpa using hb
  subst e;exact⟨_,st,λv z=>by
   have U:Data.fields _=Data.cell v:=z;cases U⟩
 keep:=λi h h' st k=>k it (by simp) _ st
 item:=by
  intro X M hw O hc i ah s σ H E I hf st T;subst M hw O;obtain⟨f0,f1,f2,f3,f4,f5⟩:=hf it (by simp);have W:=Walks.range (prog:=X.prog) (w:=X.w) (I.ok.hd hc) it lo 1 n;refine W.item i s _ _ T st λv h' tk hv G a=>?_;obtain⟨t,rfl⟩:=hv;have c:Inv X ah σ H { s with heap:=h',toks:=tk }:=I.turned (λb o hb e=>a b o (by simpa using hb) e) f0 f1 f3 f4 f5;refine⟨_,rfl,q9 (s:={ s with heap:=h',toks:=tk }) (n:="range_iterator") G rfl rfl (by decide) ⟨.int (lo+i),H,c,⟨t,?_⟩,⟨rfl,rfl⟩,G,λb hb=>(hf b hb).1⟩⟩;rw[Int.mul_one]
 done:=by
  intro X M hw O hc i ah s σ H E I hf st T;subst M hw O;obtain⟨f0,f1,f2,f3,f4,f5⟩:=hf it (by simp);exact wpAny_pyNext_range_end (I.ok.hd hc) st (by have:n<=i:=T;omega) λh' d=>⟨rfl,I.turned (t':=s.toks) (λb o hb e=>d b o hb e) f0 f1 f3 f4 f5⟩
 self:=λ_ _ _ _ _ st h=>wpAny_pyIter_rangeiter st h
section
variable {X:Cx}{tg:Expr}
def OF (K:Frag)(tl:TE):TI:=λσ H R=>tl σ H λx G=>∃a,x=.ref a/\(∃xs,gN K G a xs)/\R (TV K a) G
def RD (K:Frag)(tl:TE):TI:=λσ H R=>tl σ H λx G=>∃a,x=.ref a/\(∃xs,iP K G a xs)/\R (TW K a) G
def Iv {l:Expr}{tl:TE}(hl:PE X l tl):PI X tg l (OF X.K tl):=by
 intro ah s σ H R I h;refine cA (hl ah s σ H _ I h) λv s1 ⟨x,M,G,O,T⟩=>?_;obtain⟨a,e,⟨xs,hq⟩,q⟩:=T;subst e;cases O
 obtain⟨its,U,p,hz⟩:=G.list hq;refine wpAny_pyIter_list p.isList ?_;refine⟨s1.z,[s1.z],_,_,M,rfl,G.kept (t':=s1.toks) λb o e=>vZ _ e,D2 a _,⟨_,vY _ rfl,rfl,rfl⟩,λb hb=>?_,q⟩;have e:b=s1.z:=by simpa using hb
 subst e;exact G.fpOk (vT _) (G.hok.fresh (vT _))
def Mf {l:Expr}{tl:TE}(hl:PE X l tl):PI X tg l (RD X.K tl):=by
 intro ah s σ H R I h;refine cA (hl ah s σ H _ I h) λv s1 ⟨x,M,G,O,T⟩=>?_;obtain⟨a,e,⟨xs,hq⟩,q⟩:=T;subst e;cases O
 obtain⟨its,U,p,hz⟩:=G.tuple hq;refine wpAny_pyIter_tuple (show s1.heap.IsTuple a its.toArray from p) ?_;refine⟨s1.z,[s1.z],_,_,M,rfl,G.kept (t':=s1.toks) λb o e=>vZ _ e,Ay a _,⟨_,vY _ rfl,rfl,rfl⟩,λb hb=>?_,q⟩;have e:b=s1.z:=by simpa using hb
 subst e;exact G.fpOk (vT _) (G.hok.fresh (vT _))
def EY {ah:AO}{σ:St}{H:Hp}{s:Shared}{R:It->Hp->Prop}{E:QV}{lo hi:Int}{t u v:Tok}{tk:Nat}(I:Inv X ah σ H s)(h1 : -(2 ^ 62)<=lo)(h2:lo<2 ^ 62)(h3 : -(2 ^ 62)<=hi)(h4:hi<2 ^ 62)
  (q:R (QR lo (hi - lo).toNat) H):wq X (pyIter (.ref s.z)) (TU X ah σ tg R) E { s with heap:=s.heap.push { cls:=.type "range",data:=.fields #[.int lo t,.int hi u,.int 1 v] },toks:=tk }:=by
 refine wpAny_pyIter_range (IsRange.new ..) (small_one h1 h2 h3 h4) ?_;have G:Inv X ah σ H { s with heap:=s.heap.push { cls:=.type "range",data:=.fields #[.int lo t,.int hi u,.int 1 v] },toks:=tk }:=I.kept λb o e=>vZ _ e;refine⟨(s.heap.push { cls:=.type "range",data:=.fields #[.int lo t,.int hi u,.int 1 v] }).objs.size,[(s.heap.push { cls:=.type "range",data:=.fields #[.int lo t,.int hi u,.int 1 v] }).objs.size],_,_,H,rfl,
  G.kept (t':=tk) λb o e=>vZ _ e,Az _ lo (hi - lo).toNat,?_,λb hb=>?_,q⟩
 ·have M:lo+((0:Nat):Int)*1=lo:=by simp
  have e2:(((hi - lo).toNat:Nat):Int) - ((0:Nat):Int)=Builtin.Range.rangeSize lo hi 1:=by rw[rangeSize_one];split<;>omega
  show IsRangeIter _ _ (lo+((0:Nat):Int)*1) ((((hi - lo).toNat:Nat):Int) - ((0:Nat):Int)) 1;rw[M,e2];exact vY _ rfl
 ·have e:b=(s.heap.push { cls:=.type "range",data:=.fields #[.int lo t,.int hi u,.int 1 v] }).objs.size:=by simpa using hb
  subst e;exact G.fpOk (vT _) (G.hok.fresh (vT _))
def OG (ta:TA):TI:=λσ H R=>ta σ H λvs G=>∃j:Int,vs=[.int j]/\-(2 ^ 62)<=j/\j<2 ^ 62/\R (QR 0 j.toNat) G
def D3 {a:Expr}{ta:TA}{p G:Pos}(O:Gl X "range")(hm:X.mg "range" = none)(ha:PA X [a] ta)(hs:starEach [a] X.env=[(false,eval a X.env)]:=by rfl):PI X tg (.Call (.Name "range" p) [a] [] G) (OG ta):=by
 intro ah s σ H R I h;refine Call_ (io I O hm boot_range (PyProof.Rows.callWith_type1 (cA (ha G ah s σ H _ I h) λus s1 ⟨vs,d,T,U,M⟩=>?_) hs rfl));obtain⟨j,e,M,b,q⟩:=M;subst e;cases U with
 |cons r c=>
  cases c
  obtain⟨t,rfl⟩:=r;exact call_range_1 (EY T (by omega) (by omega) M b (by simpa using q))
def Mg (T:TI)(g:TG)(tb:TS):TS:=λD σ H=>T σ H λJ U=>∃W:Nat->Nat->St->Hp->Prop,(∃m,W 0 m σ U)/\∀i m σ H,W i m σ H ->
 (J.stop i H/\D.nx σ H)\/(J.go i H/\∃N:St->Hp->Prop,(∀G H',N G H'->∃O,O<m/\W (i+1) O G H')/\∀x H',J.yld i H x H'->g x σ H' λM H2=>tb { D with nx:=N,ct:=N,bk:=D.nx } M H2)
def oe (fp:List Addr)(h:Heap):AO:=fp.filterMap λb=>(h.get? b).map λo=>(b,o)
def jE {fp:List Addr}{h:Heap}{b:Addr}{o:Obj}(hb:b∈fp)(e:h.get? b=some o):(b,o)∈oe fp h:=mem_filterMap.mpr ⟨b,hb,by rw[e];rfl⟩
def D4 (hp:p∈oe fp h):p.1∈fp/\h.get? p.1=some p.2:=by
 obtain⟨b,hb,e⟩:=mem_filterMap.mp hp;cases q:h.get? b with
 |none=>rw[q]at e;cases e
 |some o=>
  rw[q]at e;have G:(b,o)=p:=vK e;subst G;exact⟨hb,q⟩
def Inv.pinned (I:Inv X ah σ H s)(hf:∀b∈fp,md X ah H b)(M:∀b∈fp,∃o,s.heap.get? b=some o/\∀v,o.data≠.cell v):Inv X (ah++oe fp s.heap) σ H s :=
 I.pins_of λp hp=>(mem_append.mp hp).elim (λz=>I.pin p (mY _ z)) λz=>by
  obtain⟨hb,e⟩:=D4 z;obtain⟨f0,f1,f2,_⟩:=hf p.1 hb;obtain⟨o,G,d⟩:=M p.1 hb;rw[e]at G;cases G;exact⟨e,f0,f1,f2,d⟩
def Inv.unpinned (I:Inv X (ah++pl) σ H s):Inv X ah σ H s:=I.pins_of λp hp=>I.pin p (mY _ (mem_append_left _ hp))
def EZ {M:Expr}{k:List Stmt}{C:TI}{g:TG}{tb:TS}{q:Pos}(hp:PassesOwn (model X.prog X.w) X.A X.env X.xe)(hc:X.calm=true)(hi:PI X tg M C)(R:PG X tg g)(hb:tI X k tb)
  (hs:∀x,foldedSetIterable M X.env x=pure x:=by intro _;rfl):PS X (.For tg M k [] q) (Mg C g tb):=by
 intro ah s σ H D I h;refine wpAny_For (cA (hi ah s σ H _ I h) λv s1 h1=>cA h1 λU8 s2 h2=>?_) hs;obtain⟨it,fp,tn,J,H2,e,S,T,V,f2,W,⟨Y,Z⟩,SD⟩:=h2;subst e
 -- what stays true of the iterator's objects through the loop
 have O:∀ {H':Hp},(∀b∈fp,H' b=none)->∀b∈fp,md X ah H' b:=λhn b hb=>⟨hn b hb,(f2 b hb).2⟩;refine codeAny_forLoop_any (λn s'=>∃i U H',Inv X ah U H' s'/\tn i s'.heap/\(∀b∈fp,H' b=none)/\W i n U H') ?_ Y ⟨0,σ,H2,S,V,λb hb=>(f2 b hb).1,Z⟩;rintro n E ⟨i,a,p,F,K,L,w3⟩;rcases SD i n a p w3 with⟨stop,qn⟩|⟨go,N,hN,step⟩
 ·refine wpAny_passesOwn hp (cA (T.done X rfl rfl rfl hc i ah E a p X.xe F (O L) K stop) λr s4 ⟨t,I4⟩=>?_);subst t;exact wpAny_execs_nil ⟨a,p,I4,qn⟩
 ·refine wpAny_passesOwn hp (cA (T.item X rfl rfl rfl hc i ah E a p X.xe F (O L) K go) λr s4 ⟨u,t,h4⟩=>?_);subst t;refine wpAny_passesOwn hp (cA h4 λ_ P ⟨x,Q,I5,r5,y5,y,SF⟩=>?_);have W6:=I5.pinned (O SF) (T.obj _ _ y);refine wpAny_passesOwn hp (cA (R _ P a Q x u _ W6 r5 (step x Q y5)) λ_ s6 ⟨z,H6,I6,q6⟩=>?_);refine wpAny_passesOwn hp (cA (hb _ s6 z H6 _ I6 q6) λf B l=>?_);have again:∀ {G:St}{c:Hp},Inv X (ah++oe fp P.heap) G c B->N G c->∃m,m<n/\∃i U H',Inv X ah U H' B/\tn i B.heap/\(∀b∈fp,H' b=none)/\W i m U H':=λ{G c} j n7=>by
   obtain⟨m',hm,w7⟩:=hN G c n7;refine⟨m',hm,i+1,G,c,j.unpinned,T.keep _ _ _ y λb hb o e=>(j.pin (b,o) (mY _ (mY _ (jE hb e)))).1,λb hb=>?_,w7⟩;obtain⟨o,e,d⟩:=T.obj _ _ y b hb;exact(j.pin (b,o) (mY _ (mY _ (jE hb e)))).2.1
  cases f with
  |next=>obtain⟨G,c,j,n7⟩:=l;exact again j n7
  |cont=>obtain⟨G,c,j,n7⟩:=l;exact again j n7
  |brk=>obtain⟨G,c,j,l⟩:=l;exact⟨G,c,j.unpinned,l⟩
  |ret v=>obtain⟨x7,G,c,j,r7,l⟩:=l;exact⟨x7,G,c,j.unpinned,r7,l⟩
end
abbrev R2:=V->V->Hp->VK->Prop
def dI (X:Cx)(f:Value->Value->Sem Value)(r:R2):Prop :=
 ∀(ah:AO)(s:Shared)(σ:St)(H:Hp)(x y:V)(v u:Value)(Q:VK),Inv X ah σ H s->bf x v->bf y u->r x y H Q ->
  wq X (f v u) (EP X ah σ Q) X.xe s
def OH (X:Cx)(f:Value->Sem Value)(r:V->Hp->VK->Prop):Prop :=
 ∀(ah:AO)(s:Shared)(σ:St)(H:Hp)(x:V)(v:Value)(Q:VK),Inv X ah σ H s->bf x v->r x H Q ->
  wq X (f v) (EP X ah σ Q) X.xe s
def cr (X:Cx)(f:Value)(r:List V->Hp->VK->Prop):Prop :=
 ∀(ah:AO)(s:Shared)(σ:St)(H:Hp)(xs:List V)(us:LU)(Q:VK),Inv X ah σ H s->bq xs us->r xs H Q ->
  wq X (call f us) (EP X ah σ Q) X.xe s
def QS (r:R2)(ta tb:TE):TE:=λσ H Q=>ta σ H λx G=>tb σ G λy H2=>r x y H2 Q
def V6 (r:V->Hp->VK->Prop)(ta:TE):TE:=λσ H Q=>ta σ H λx G=>r x G Q
def rI (C:Int->Int->Prop)(g:Int->Int->V):R2:=λx y H Q=>∃i j,x=.int i/\y=.int j/\C i j/\Q (g i j) H
def Ib (g:Int->Int->V):R2:=λx y H Q=>∃i j,x=.int i/\y=.int j/\Q (g i j) H
def rU (g:Int->V):V->Hp->VK->Prop:=λx H Q=>∃i,x=.int i/\Q (g i) H
section
variable {X:Cx}{a b c:Expr}{ta tb tc:TE}{pos:Pos}
def Mh (ha:PE X a ta)(hb:PE X b tb){ah:AO}{s:Shared}{σ:St}{H:Hp}{R:V->V->Hp->Prop}(I:Inv X ah σ H s)
  (h:ta σ H λx O=>tb σ O λy H2=>R x y H2) {Q:QV}{f:Value->Value->Sem Value}
  (hf:∀v u s2 x y H2,Inv X ah σ H2 s2->bf x v->bf y u->R x y H2->wq X (f v u) Q X.xe s2):
  wq X (eval a X.env) (λv G=>wq X (eval b X.env) (λu M=>wq X (f v u) Q X.xe M) X.xe G) X.xe s:=by
 refine cA (ha ah s σ H _ I h) λv s1 ⟨x,O,T,U,d⟩=>?_;refine cA (hb ah s1 σ O _ T d) λu s2 ⟨y,H2,e,g,i⟩=>?_;exact hf v u s2 x y H2 e U g i
def OJ {op:Operator}{r:R2}(G:dI X (binaryOp op) r)(ha:PE X a ta)(hb:PE X b tb):PE X (.BinOp a op b pos) (QS r ta tb):=by
 intro ah s σ H Q I h;exact wpAny_BinOp (Mh ha hb I h λv u s2 x y H2 M O T q=>G ah s2 σ H2 x y v u Q M O T q)
def OK {op:UnaryOp}{r:V->Hp->VK->Prop}(G:OH X (unaryOp op) r)(ha:PE X a ta):PE X (.UnaryOp op a pos) (V6 r ta):=by
 intro ah s σ H Q I h;exact UnaryOp_ (cA (ha ah s σ H _ I h) λv s1 ⟨x,M,O,T,U⟩=>G ah s1 σ M x v Q O T U)
def RE {f:Value->Value->Sem Value}{C:Int->Int->Prop}{g:Int->Int->Int}
  (rule:∀(i j:Int)(t u:Tok)(s:Shared)(Q:QV)(E:QV),C i j->Q (.int (g i j) s.toks) { s with toks:=s.toks+1 }->wq X (f (.int i t) (.int j u)) Q E s):
  dI X f (rI C λi j=>.int (g i j)):=by
 intro ah s σ H x y v u Q I G M h;obtain⟨i,j,rfl,rfl,hc,q⟩:=h;obtain⟨t,rfl⟩:=G;obtain⟨t',rfl⟩:=M;exact rule i j t t' s _ _ hc ⟨.int (g i j),H,I.tok _,⟨_,rfl⟩,q⟩
def Mi {f:Value->Value->Sem Value}{g:Int->Int->Int}
  (rule:∀(i j:Int)(t u:Tok)(s:Shared)(Q:QV)(E:QV),Q (.int (g i j) s.toks) { s with toks:=s.toks+1 }->wq X (f (.int i t) (.int j u)) Q E s):
  dI X f (Ib λi j=>.int (g i j)):=by
 intro ah s σ H x y v u Q I G M h;obtain⟨i,j,rfl,rfl,q⟩:=h;obtain⟨t,rfl⟩:=G;obtain⟨t',rfl⟩:=M;exact rule i j t t' s _ _ ⟨.int (g i j),H,I.tok _,⟨_,rfl⟩,q⟩
def Iw {f:Value->Value->Sem Value}{g:Int->Int->Bool}
  (rule:∀(i j:Int)(t u:Tok)(s:Shared)(Q:QV)(E:QV),Q (.bool (g i j)) s->wq X (f (.int i t) (.int j u)) Q E s):
  dI X f (Ib λi j=>.bl (g i j)):=by
 intro ah s σ H x y v u Q I G M h;obtain⟨i,j,rfl,rfl,q⟩:=h;obtain⟨t,rfl⟩:=G;obtain⟨t',rfl⟩:=M;exact rule i j t t' s _ _ ⟨.bl (g i j),H,I,rfl,q⟩
def OL (i j:Int):Prop:=0<j/\j<1073741824
def Ix (i j:Int):Prop:=(-(2 ^ 64)<i/\i<2 ^ 64)\/(-(2 ^ 64)<j/\j<2 ^ 64)
def Ix.ok (h:Ix i j):IntMulOk i j:=by
 rcases h with⟨h1,h2⟩|⟨h1,h2⟩
 ·exact .of_left (intBits_le_64 h1 h2)
 ·exact .of_right (intBits_le_64 h1 h2)
def Mj:dI X (binaryOp .Add) (Ib λi j=>.int (i+j)):=Mi λ_ _ _ _ _ _ _ q=>add_int q
def Mk:dI X (binaryOp .Sub) (Ib λi j=>.int (i - j)):=Mi λ_ _ _ _ _ _ _ q=>sub_int q
def Ml:dI X (binaryOp .Mult) (rI Ix λi j=>.int (i*j)):=RE λ_ _ _ _ _ _ _ hc q=>mul_int q hc.ok
def Iy:dI X (binaryOp .FloorDiv) (rI OL λi j=>.int (i / j)):=RE λi j _ _ _ _ _ hc q=>by
 have h1:(0:Int)<j:=hc.1;have h2:j<1073741824:=hc.2;exact floordiv_int (by omega) (by rw[Int.fdiv_eq_ediv_of_nonneg i (by omega)];exact q) (.inl (PyProof.noPylong_small (by omega)))
def Mm:dI X (binaryOp .Mod) (rI (λ_ j=>0<j) λi j=>.int (i % j)):=RE λi j _ _ _ _ _ hc q=>by
 have h1:(0:Int)<j:=hc;exact mod_int' (by omega) (by rw[Int.fmod_eq_emod_of_nonneg i (by omega)];exact q)
def Mn:dI X (binaryOp .BitAnd) (Ib λi j=>.int (Builtin.bitAnd i j)):=Mi λ_ _ _ _ _ _ _ q=>and_int q
def V7 {f:Value->Sem Value}{g:Int->Int}
  (rule:∀(i:Int)(t:Tok)(s:Shared)(Q:QV)(E:QV),Q (.int (g i) s.toks) { s with toks:=s.toks+1 }->wq X (f (.int i t)) Q E s):
  OH X f (rU λi=>.int (g i)):=by
 intro ah s σ H x v Q I G h;obtain⟨i,rfl,q⟩:=h;obtain⟨t,rfl⟩:=G;exact rule i t s _ _ ⟨.int (g i),H,I.tok _,⟨_,rfl⟩,q⟩
def Mo:OH X (unaryOp .USub) (rU λi=>.int (-i)):=V7 λ_ _ _ _ _ q=>neg_int q
def D5:dI X (binaryOp .Add) (λx y H Q=>∃i k,x=.int i/\y=.bl k/\Q (.int (i+b2i k)) H):=by
 intro ah s σ H x y v u Q I G M h;obtain⟨i,k,rfl,rfl,q⟩:=h;obtain⟨t,rfl⟩:=G;cases M
 exact add_int_bool ⟨.int (i+b2i k),H,I.tok _,⟨_,rfl⟩,q⟩
end
section
variable {X:Cx}{a b c:Expr}{ta tb tc:TE}{pos:Pos}
def OM:dI X (compareOp .Lt) (Ib λi j=>.bl (decide (i<j))):=Iw λ_ _ _ _ _ _ _ q=>lt_int q
def ON:dI X (compareOp .LtE) (Ib λi j=>.bl (decide (i<=j))):=Iw λ_ _ _ _ _ _ _ q=>le_int q
def OO:dI X (compareOp .Gt) (Ib λi j=>.bl (decide (j<i))):=Iw λ_ _ _ _ _ _ _ q=>gt_int q
def OP:dI X (compareOp .GtE) (Ib λi j=>.bl (decide (j<=i))):=Iw λ_ _ _ _ _ _ _ q=>ge_int q
def dI.or (h:dI X f r)(h':dI X f O):dI X f (λx y H Q=>r x y H Q\/O x y H Q):=by
 intro ah s σ H x y v u Q I G M q;rcases q with q|q
 ·exact h ah s σ H x y v u Q I G M q
 ·exact h' ah s σ H x y v u Q I G M q
def Iz (G:dI X (compareOp op) r)(ha:PE X a ta)(hb:PE X b tb)(hm:behindInMarks op b=false):PE X (.Compare a [op] [b] pos) (QS r ta tb):=by
 intro ah s σ H Q I h;exact wpAny_Compare1 (Mh ha hb I h λv u s2 x y H2 M O T q=>G ah s2 σ H2 x y v u Q M O T q) hm
def KY (t:TE):TT:=λσ H Q=>t σ H λx H'=>∃k,x=.bl k/\Q k H'
def BH {op:CmpOp}{r:R2}(G:dI X (compareOp op) r)(ha:PE X a ta)(hb:PE X b tb)(hm:behindInMarks op b=false):PT X (.Compare a [op] [b] pos) (KY (QS r ta tb)):=by
 intro ah s σ H Q I h;refine wpAny_isTrue_Compare1 (cA (ha ah s σ H _ I h) λv s1 ⟨x,M,O,T,U⟩=>cA (hb ah s1 σ M _ O U) λu s2 ⟨y,H2,d,f,g⟩=>
  cA (G ah s2 σ H2 x y v u _ d T f g) λc n ⟨z,i,j,l,k,e,m⟩=>?_) hm
 subst e;cases l
 exact wpAny_truthy_bool ⟨i,j,m⟩
def A0 (r M:R2)(ta tb tc:TE):TE:=λσ H Q=>ta σ H λx O=>tb σ O λy H2=>r x y H2 λz G=>∃k,z=.bl k /\
 (if k=true then tc σ G λT U=>M y T U Q else Q (.bl false) G)
def Fa {op G:CmpOp}{r O:R2}(i:dI X (compareOp op) r)(M:dI X (compareOp G) O)(ha:PE X a ta)(hb:PE X b tb)(hc:PE X c tc)
  (hm:lastMarks [op,G] [b,c]=false:=by with_unfolding_all rfl):PE X (.Compare a [op,G] [b,c] pos) (A0 r O ta tb tc):=by
 intro ah s σ H Q I h;refine Compare_chain (cA (ha ah s σ H _ I h) λv s1 ⟨x,j,l,m,n⟩=>chain_link (cA (hb ah s1 σ j _ l n) λu s2 ⟨y,H2,o,T,p⟩=>
  cA (i ah s2 σ H2 x y v u _ o m T p) λd q ⟨z,U,f,t,k,e,g⟩=>?_)) hm
 subst e;cases t
 refine wpAny_truthy_bool ?_;cases k with
 |false=>exact ite_ff ⟨.bl false,U,f,rfl,g⟩
 |true=>exact ite_tt (chain_last (cA (hc ah q σ U _ f g) λw A ⟨B,C,D,E,F⟩=>M ah A σ C y B u w Q D T E F))
def Fb {op G:CmpOp}{r O:R2}(i:dI X (compareOp op) r)(M:dI X (compareOp G) O)(ha:PE X a ta)(hb:PE X b tb)(hc:PE X c tc)
  (hm:lastMarks [op,G] [b,c]=false:=by with_unfolding_all rfl):PT X (.Compare a [op,G] [b,c] pos) (KY (A0 r O ta tb tc)):=by
 intro ah s σ H Q I h;refine isTrue_chain (cA (ha ah s σ H _ I h) λv s1 ⟨x,j,l,m,n⟩=>test_link (cA (hb ah s1 σ j _ l n) λu s2 ⟨y,H2,o,T,p⟩=>
  cA (i ah s2 σ H2 x y v u _ o m T p) λd q ⟨z,U,f,t,k,e,g⟩=>?_)) hm
 subst e;cases t
 refine wpAny_truthy_bool ?_;cases k with
 |false=>
  obtain⟨k',w,A⟩:=g;cases w
  exact ite_ff ⟨U,f,A⟩
 |true=>
  refine ite_tt (test_last (cA (hc ah q σ U _ f g) λB C ⟨D,E,F,J,K⟩=>cA (M ah C σ E y D u B _ F T J K) λd' S ⟨V,L,N,P,k2,e2,R⟩=>?_));subst e2;cases P
  exact wpAny_truthy_bool ⟨L,N,R⟩
def qA:(sizeLine:Nat)<2 ^ 63:=by rw[sizeLine_eq];decide
def A1:dI X (binaryOp .Add) (λx y H Q=>∃i j,x=.str i/\y=.str j/\i.length+j.length<=sizeLine/\Q (.str (i++j)) H):=by
 intro ah s σ H x y v u Q I G M h;obtain⟨i,j,rfl,rfl,hz,q⟩:=h;obtain⟨t,rfl⟩:=G;obtain⟨t',rfl⟩:=M;exact add_str (λt' tk=>⟨.str (i++j),H,I.tok _,⟨_,rfl⟩,q⟩) hz
def iq (r:bq [x] us):∃u,us=[u]/\bf x u:=by
 cases r with
 |cons G M=>cases M;exact⟨_,rfl,G⟩
def Fc (r:bq [x,y] us):∃u G,us=[u,G]/\bf x u/\bf y G:=by
 cases r with
 |cons M O=>
  cases O with
  |cons T U=>cases U;exact⟨_,_,rfl,M,T⟩
def D6 (hc:X.calm=true):cr X (.builtin "max") (λxs H Q=>∃i j,xs=[.int i,.int j]/\Q (.int (if j > i then j else i)) H):=by
 intro ah s σ H xs us Q I r h;obtain⟨i,j,rfl,q⟩:=h;obtain⟨u,G,rfl,⟨t,rfl⟩,⟨t',rfl⟩⟩:=Fc r;refine max_two_ints (I.ok.hd hc) λh' tk k=>⟨_,H,I.kept k,?_,q⟩;by_cases hj:j > i
 ·rw[if_pos hj,if_pos hj];exact⟨_,rfl⟩
 ·rw[if_neg hj,if_neg hj];exact⟨_,rfl⟩
def D7:cr X (.type "int") (λxs H Q=>(∃i,xs=[.int i]/\Q (.int i) H)\/∃k,xs=[.bl k]/\Q (.int (if k then 1 else 0)) H):=by
 intro ah s σ H xs us Q I r h;rcases h with⟨i,rfl,q⟩|⟨k,rfl,q⟩
 ·obtain⟨u,rfl,t,rfl⟩:=iq r;exact call_int_int ⟨.int i,H,I,⟨_,rfl⟩,q⟩
 ·obtain⟨u,rfl,G⟩:=iq r;cases G
  exact call_int_bool ⟨.int (if k then 1 else 0),H,I.tok _,⟨_,rfl⟩,q⟩
end
structure KI (h:Heap)(x dx C:Addr)(mA:Str->Option Value):Prop where
 obj:h.get? x=some (PySem.W.instObj C dx)
 ns:h.Ns1 dx mA
 ne:dx≠x
def D8 {h:Heap}{dx:Addr}{mA:SV}(n:h.Ns1 dx mA):∃od,h.get? dx=some od/\∀name,PySem.W.lookIn name od=some (mA name):=by
 obtain⟨o,es,T,M,hd,hk,_,hm⟩:=n;refine⟨o,M,λname=>?_⟩;have e:=hm name;unfold nsFind findBy at e;rw[<-Array.find?_toList]at e;unfold PySem.W.lookIn;rw[hd];dsimp only;split
 ·rename_i y q;rw[q]at e;exact congrArg some e
 ·rename_i q;rw[q]at e;have a:es.toList.any (·.refKey)=false:=by
   rw[List.any_eq_false];intro y hy;obtain⟨z,t,G⟩:=hk y (Array.mem_toList_iff.mp hy);simp[DictEntry.refKey,G]
  have O:¬es.toList.any (·.refKey)=true:=by rw[a];exact uX
  rw[if_neg O];exact congrArg some e
def KI.look (I:KI h x dx C mA):∃od,PySem.W.InstAt h x (PySem.W.instObj C dx) C (some od)/\∀name,PySem.W.lookIn name od=some (mA name) :=
 let ⟨od,G,hl⟩:=D8 I.ns
 ⟨od,⟨I.obj,rfl,rfl,G⟩,hl⟩
section
variable {prog:Program}{w:World}{A:Around}{E:QV}{s:Shared}{K:Frag}{x dx C f:Addr}{mA:SV}{name:Str}{v:Value}
end
def pU.none_of (r:pU none o):o=none:=by
 cases o with
 |none=>rfl
 |some u=>exact(show False from r).elim
section
variable {P:Program}{w:World}{H H':Hp}{h h':Heap}{a C dx:Addr}{fs S6:List (Str×V)}
def BI (hok:lJ P w H h)(e:H a=some (.ins C dx fs)):∃mA,KI h a dx C mA/\(∀f,pU (fs.lookup f) (mA f))/\PySem.Within mA (fs.map (·.1))/\fs.length<=1000/\H dx=some (.own a):=by
 obtain⟨d,z,ne,ob,mA,n,r,q⟩:=(show bI P w H h a (.ins C dx fs)from hok a _ e);exact⟨mA,⟨ob,n,ne⟩,r,q,z,d⟩
end
structure Cls (K:Frag)(C:Addr):Prop where
 pg:PySem.W.plainGet K C Str.empty=true
 hd:PySem.W.hasDictIn K C=true
 po:PySem.W.plainOver K C=true
 sa:PySem.W.findIn K (.ref C) "__setattr__" = some (some (.builtin "object.__setattr__"))
def Cls.get {K:Frag}{C:Addr}(c:Cls K C)(f:Str):PySem.W.plainGet K C f=true:=c.pg
structure Meth (K:Frag)(C:Addr)(m:Str)(f:Addr):Prop where
 at_:PySem.W.findIn K (.ref C) m=some (some (.ref f))
 fn:PySem.W.isFn K (.ref f)=true
 kp:PySem.W.keepIn K (.ref f)=true
section
variable {X:Cx}{ah:AO}{σ:St}{H:Hp}{s:Shared}{a C dx:Addr}{fs:List (Str×V)}{f:Str}{v:V}{A:Around}{E:QV}
def Inv.made (I:Inv X ah σ H s):Inv X ah σ (upd (upd H s.z (.own (s.z+1))) (s.z+1) (.ins C s.z []))
  { s with heap:=(s.heap.push PySem.W.emptyDict).push (PySem.W.instObj C s.z) }:=by
 have G:(s.heap.push PySem.W.emptyDict).get? s.z=some PySem.W.emptyDict:=vY s.heap rfl;have e2:((s.heap.push PySem.W.emptyDict).push (PySem.W.instObj C s.z)).get? (s.z+1)=some (PySem.W.instObj C s.z):=by
  have:=vY (s.heap.push PySem.W.emptyDict) (o:=PySem.W.instObj C s.z) rfl;rwa [Heap.size_push]at this
 have M:(s.heap.push PySem.W.emptyDict).Ns s.z (λ_=>none):=⟨PySem.W.emptyDict,#[],_,G,rfl,(λe he=>absurd he (by simp)),λ_=>rfl⟩;have O:=I.laid (a:=s.z) (o:=.own (s.z+1)) (h':=s.heap.push PySem.W.emptyDict) (t':=s.toks) (λb u q=>vZ _ q) (vT _) ⟨_,G⟩;refine O.laid (a:=s.z+1) (o:=.ins C s.z []) (t':=s.toks) (λb u q=>vZ _ q) (le_of_eq (Heap.size_push _ _)) ?_;have ne:s.z≠s.z+1:=vS (lt_succ_self _);refine⟨by rw[aG ne,aB],uN _,ne,e2,λ_=>none,(Heap.Ns1.of_empty M).at λo q=>vZ _ q,λ_=>True.intro,λy hy=>absurd rfl hy⟩
end
section
variable {X:Cx}{o e value:Expr}{f:Str}{pos HV NH:Pos}{ta tv:TE}
end
section
variable {X:Cx}{ah:AO}{σ:St}{H:Hp}{s:Shared}{A:Around}{E:QV}{Q:QV}{c:Value}{b:Bool}
inductive TyOf (K:Frag)(H:Hp):V->Value->Prop where
 |non:TyOf K H .non (.type "NoneType")
 |bl (x:Bool):TyOf K H (.bl x) (.type "bool")
 |int (i:Int):TyOf K H (.int i) (.type "int")
 |str (x:Str):TyOf K H (.str x) (.type "str")
 |flt (x:UInt64):TyOf K H (.flt x) (.type "float")
 |lst {a:Addr}{xs:List V}(e:H a=some (.lst xs)):TyOf K H (.ref a) (.type "list")
 |frz {a:Addr}{o:Obj}{xs:List V}(e:H a=some (.frz o (.lst xs))):TyOf K H (.ref a) (.type "list")
 |tup {a:Addr}{xs:List V}(e:H a=some (.tup xs)):TyOf K H (.ref a) (.type "tuple")
 |dK {a:Addr}{aK:List (eK×V)}{ob:Obj}(e:H a=some (.dK aK ob)):TyOf K H (.ref a) (.type "dict")
 |dT {a:Addr}{aK:List (List eK×V)}(e:H a=some (.dT aK)):TyOf K H (.ref a) (.type "dict")
 |ins {a C dx:Addr}{fs:List (Str×V)}(e:H a=some (.ins C dx fs)) (cl:Cls K C) (ha:PySem.W.findIn K (.ref C) "__class__" = some (some (.builtin "object.__class__")))
   (hn:PySem.W.specialIn K (.builtin "object.__class__") "__get__" = some (some (.builtin "getset_descriptor.__get__"))) (UA:PySem.W.takesIn K (.builtin "object.__class__")=some true)
   (hm:PySem.W.mroIn K C (.type "object")=some true):TyOf K H (.ref a) (.ref C)
def ia (I:Inv X ah σ H s)(G:bf x u)(ty:TyOf X.K H x t)(e:PySem.W.kitOne X.K t c=some b)(h:∀tk,Q (.bool b) { s with toks:=tk }):
  wpAny (model X.prog X.w) A (call (.builtin "isinstance") [u,c]) Q E s:=by
 cases ty with
 |non=>cases (show u=Value.none from G);exact kia_one PySem.W.kitx_none I.kIn True.intro e (λz=>nomatch z) h
 |bl y=>cases (show u=Value.bool y from G);exact kia_one PySem.W.kitx_bool I.kIn True.intro e (λz=>nomatch z) h
 |int i=>obtain⟨t,q⟩:=(show ∃t,u=Value.int i t from G);cases q;exact kia_one PySem.W.kitx_int I.kIn True.intro e (λz=>nomatch z) h
 |str y=>obtain⟨t,q⟩:=(show ∃t,u=Value.str y t from G);cases q;exact kia_one PySem.W.kitx_str I.kIn True.intro e (λz=>nomatch z) h
 |flt y=>obtain⟨t,q⟩:=(show ∃t,u=Value.float y t from G);cases q;exact kia_one PySem.W.kitx_float I.kIn True.intro e (λz=>nomatch z) h
 |@lst a xs M=>
  cases (show u=Value.ref a from G)
  obtain⟨_,_,n,_,h1⟩:=(show bI X.prog X.w H s.heap a (.lst xs)from I.hok a _ M);exact kia_one PySem.W.kitx_list I.kIn ⟨_,h1,rfl⟩ e (λz=>nomatch z) h
 |@frz a ob xs M=>
  cases (show u=Value.ref a from G)
  obtain⟨_,_,_,n,_,h1⟩:=(show bI X.prog X.w H s.heap a (.frz ob (.lst xs))from I.hok a _ M);exact kia_one PySem.W.kitx_list I.kIn ⟨_,h1,rfl⟩ e (λz=>nomatch z) h
 |@tup a xs M=>
  cases (show u=Value.ref a from G)
  obtain⟨_,_,_,p⟩:=(show bI X.prog X.w H s.heap a (.tup xs)from I.hok a _ M);obtain⟨o,h1,h2,_⟩:=p;exact kia_one PySem.W.kitx_tuple I.kIn ⟨o,h1,h2⟩ e (λz=>nomatch z) h
 |@dK a aK ob M=>
  cases (show u=Value.ref a from G)
  obtain⟨_,_,_,vs,_,p⟩:=(show bI X.prog X.w H s.heap a (.dK aK ob)from I.hok a _ M);obtain⟨o,es,T,h1,h2,_⟩:=p;exact kia_one PySem.W.kitx_dict I.kIn ⟨o,h1,h2.1⟩ e (λz=>nomatch z) h
 |@dT a aK M=>
  cases (show u=Value.ref a from G)
  obtain⟨_,_,xs,_,o,es,T,h1,h2,_⟩:=(show bI X.prog X.w H s.heap a (.dT aK)from I.hok a _ M);exact kia_one PySem.W.kitx_dict I.kIn ⟨o,h1,h2.1⟩ e (λz=>nomatch z) h
 |@ins a C dx fs M cl ha hn UA hm=>
  cases (show u=Value.ref a from G)
  obtain⟨mA,O,_⟩:=BI I.hok M;obtain⟨od,J,_⟩:=O.look;exact kia_one (PySem.W.kitx_own (cl.get _) cl.hd ha hn UA hm) I.kIn J e (λz=>nomatch z) h
end
structure eV (k:Nat)(A:Around):Prop where
 hd:A.handled=none
 dp:A.depth+3*k+5<recursionLimit
 un:A.units+16*k+200<cLine
def eV.mono (r:eV k A)(h:j<=k):eV j A:=⟨r.hd,by have:=r.dp;omega,by have:=r.un;omega⟩
def eV.deeper (r:eV (k+1) A)(env:Env):eV k (A.deeper env) :=
 ⟨r.hd,by have:=r.dp;show A.depth+1+3*k+5<_;omega,by have:=r.un;show A.units+3+16*k+200<_;omega⟩
def eV.in1 (r:eV (k+1) A):eV k A.in1 :=
 ⟨r.hd,by have:=r.dp;show A.depth+3*k+5<_;omega,by have:=r.un;show A.units+1+16*k+200<_;omega⟩
def eV.depth (r:eV k A):A.depth<recursionLimit:=by have:=r.dp;omega
def OR:TA:=λ_ H Q=>Q [] H
def La (ta:TE)(G:TA):TA:=λσ H Q=>ta σ H λx M=>G σ M λxs H2=>Q (x::xs) H2
section
variable {X:Cx}{e:Expr}{es:QD}{te:TE}{t:TA}{pos:Pos}
def gO:PA X [] OR:=λ_ _ _ _ H Q I h=>Calls.spliced_nil ⟨[],H,I,.nil,h⟩
def eI (ha:PE X e te)(G:PA X es t)(hs:starEach (e::es) X.env=(false,eval e X.env)::starEach es X.env:=by rfl):PA X (e::es) (La te t):=by
 intro pos ah s σ H Q I h;rw[hs];show wpAny _ _ (spliced ((false,eval e X.env)::backTo pos (starEach es X.env))) _ _ s;refine Calls.spliced_cons (cA (ha ah s σ H _ I h) λu s1 ⟨x,M,O,T,U⟩=>?_);exact cA (G pos ah s1 σ M _ O U) λus s2 ⟨xs,H2,a,b,c⟩=>⟨x::xs,H2,a,.cons T b,c⟩
def OS (t:TA):TE:=λσ H Q=>t σ H λxs G=>xs.length<=sizeLine/\∀p,G p=none->Q (.ref p) (upd G p (.tup xs))
def RG (t:TA):TE:=λσ H Q=>t σ H λxs G=>xs.length<=sizeLine/\∀p,G p=none->Q (.ref p) (upd G p (.lst xs))
def A3 {O}(h:PA X es t):PE X (.Tuple es O pos) (OS t):=by
 intro ah s σ H Q I hq;refine wpAny_Tuple_spliced (cA (h pos ah s σ H _ I hq) λus s1 ⟨xs,G,M,r,z,q⟩=>⟨by rw[<-r.length];exact z,?_⟩);have hf:G s1.z=none:=M.hok.fresh (vT _);refine⟨.ref s1.z,upd G s1.z (.tup xs),M.laid (t':=s1.toks) (λb u e=>vZ _ e) (vT _) ?_,rfl,q _ hf⟩;exact⟨z,us,r,⟨_,vY _ rfl,rfl,_,rfl⟩⟩
def Mq (h:PA X es t):PE X (.List es pos) (RG t):=by
 intro ah s σ H Q I hq;refine wpAny_List_spliced (cA (h pos ah s σ H _ I hq) λus s1 ⟨xs,G,M,r,z,q⟩=>⟨by rw[<-r.length];exact z,?_⟩);have hf:G s1.z=none:=M.hok.fresh (vT _);refine⟨.ref s1.z,upd G s1.z (.lst xs),M.laid (t':=s1.toks) (λb u e=>vZ _ e) (vT _) ?_,rfl,q _ hf⟩;exact⟨z,us,0,r,vY _ rfl⟩
end
abbrev Sp:=List V->Hp->VK->XK->Prop
abbrev IA:=List Env->Hp->Shared->XK->QV
structure Env0 (P:Program)(w:World)(K:Frag)(mg:Str->Option Value)(base:Heap)(A:Around)(outer:List Env)(s:Shared)(H:Hp):Prop where
 frames:A.frames=some outer
 mod:Mod K mg base
 bs:∀b o,base.get? b=some o->s.heap.get? b=some o/\H b=none
 bsz:base.objs.size<=s.z
 funs:s.heap.FunFrames base outer
 frf:∀b∈EK outer,H b=none
 hok:lJ P w H s.heap
 bare:AllBare s.gens
def CE (outer:List Env)(P:Program)(w:World)(H:Hp)(s:Shared)(Q:VK)(u:Value)(s':Shared):Prop :=
 ∃v H',s'.os=s.os/\AllBare s'.gens/\Un (EK outer) [] H H' s.heap s'.heap/\lJ P w H' s'.heap/\bf v u/\Q v H'
def CR (CX:IA)(outer:List Env)(P:Program)(w:World)(H:Hp)(s:Shared)(Q:VK)(E:XK)(r:Result)(s':Shared):Prop :=
 match r with
 |.ok (.ret u)=>CE outer P w H s Q u s'
 |.ok _=>False
 |.error e=>CX outer H s E e s'
structure nW (P:Program)(w:World)(K:Frag)(mg:Str->Option Value)(base:Heap)(CX:IA)(k:Nat)(f:Addr)(fd:FuncData)(ps:List Str)(sp:Sp):Prop where
 len:∀vs H Q E,sp vs H Q E->vs.length=ps.length
 run:∀(A:Around)(outer:List Env)(s:Shared)(H:Hp)(args:Args)(us:List Value)(vs:List V)(Q:VK)(E:XK),eV k A->Env0 P w K mg base A outer s H->BindsTo s fd args (ps.zip us)->bq vs us->sp vs H Q E ->
  codeAny (model P w) A (.call (.ref f) args) (CR CX outer P w H s Q E) s
def nW.mono {P:Program}{w:World}{K:Frag}{mg:SV}{base:Heap}{CX:IA}{j k:Nat}{f:Addr}{fd:FuncData}{ps:LS}{sp:Sp}(F:nW P w K mg base CX j f fd ps sp)(h:j<=k):
  nW P w K mg base CX k f fd ps sp:=⟨F.len,λA outer s H args us vs Q E G=>F.run A outer s H args us vs Q E (G.mono h)⟩
section
variable {X:Cx}{ah:AO}{σ:St}{H:Hp}{s s':Shared}
def Inv.env0 (I:Inv X ah σ H s):Env0 X.prog X.w X.K X.mg X.base X.A X.stack s H :=
 ⟨I.ok.frames,I.ok.mod,I.bs,vR I.ok.bsz I.sz,I.stack,I.stkFree,I.hok,I.bare⟩
def Inv.after (I:Inv X ah σ H s)(h:CE X.stack X.prog X.w H s Q u s'):EP X ah σ Q u s':=by
 obtain⟨v,H',os,bare,un,hok,r,q⟩:=h;obtain⟨hh,g,d,t,G⟩:=s';obtain rfl:G=s.os:=os;exact⟨v,H',I.call (h':=hh) (g':=g) (d':=d) (t':=t) (ch:=[]) un hok bare (λb z=>absurd z (by simp)),r,q⟩
end
def OT (sp:Sp)(G:List V)(E:XK)(t:TA):TE:=λσ H Q=>t σ H λvs M=>sp (vs++G) M Q E
def oZ (K:Frag)(fd:FuncData)(ps:LS)(ds:LU):Prop :=
 ∀(s:Shared)(us:LU),K.In s.heap->(us++ds).length=ps.length->BindsTo s fd ⟨us,[]⟩ (ps.zip (us++ds))
def oZ.all {K:Frag}{fd:FuncData}{ps:LS}(h:∀us:LU,us.length=ps.length->bindArgs fd ⟨us,[]⟩=pure (ps.zip us)):oZ K fd ps []:=λs us _ hl=>by
 rw[uQ]at hl |-;exact .of_eq (h us hl)
def A4 (CX:IA)(X:Cx)(E:XK):Prop:=∀(ah:AO)(σ:St)(H:Hp)(s:Shared)(e:Value)(s':Shared),Inv X ah σ H s->CX X.stack H s E e s'->X.xe e s'
section
variable {X:Cx}{CX:IA}{k:Nat}{f C:Addr}{fd:FuncData}{ps:LS}{sp:Sp}{Oq:List V}{ds:LU}{E:XK}{x m:Str}{p pos dL:Pos}{e o:Expr}{es:QD}{ta:TE}{t:TA}
def Mr {ah:AO}{σ:St}{H:Hp}{s:Shared}{Q:VK}{us:LU}{vs:List V}(F:nW X.prog X.w X.K X.mg X.base CX k f fd ps sp)(M:eV k X.A)(hb:oZ X.K fd ps ds)(hd:bq Oq ds)(hx:A4 CX X E)
  (I:Inv X ah σ H s) (r:bq vs us) (h:sp (vs++Oq) H Q E):wq X (call (.ref f) us) (EP X ah σ Q) X.xe s:=by
 have G:bq (vs++Oq) (us++ds):=r.append hd;have hl:(us++ds).length=ps.length:=by rw[<-G.length];exact F.len _ _ _ _ h
 refine wpAny_call (codeAny_mono (F.run X.A X.stack s H ⟨us,[]⟩ (us++ds) (vs++Oq) Q E M I.env0 (hb s us I.kIn hl) G h) λr s' hq=>?_);cases r with
 |error e=>exact hx ah σ H s e s' I hq
 |ok fl=>
  cases fl with
  |ret u=>exact I.after hq
  |next=>exact False.elim hq
  |brk=>exact False.elim hq
  |cont=>exact False.elim hq
def IB (F:nW X.prog X.w X.K X.mg X.base CX k f fd ps sp)(T:eV k X.A)(U:Gl X x)(hm:X.mg x=some (.ref f))(hk:PySem.W.keepIn X.K (.ref f)=true)(hb:oZ X.K fd ps ds)(hd:bq Oq ds)(hx:A4 CX X E)
  (ha:PA X (e::es) t) (G:(x == ("__debug__" : Str))=false:=by decide) (he:starEach (e::es) X.env=(false,eval e X.env)::starEach es X.env:=by rfl) (M:(backTo pos (starEach es X.env)).any (·.1)=false:=by rfl):
  PE X (.Call (.Name x p) (e::es) [] pos) (OT sp Oq E t):=by
 intro ah s σ H Q I h;refine wpAny_Call_Name_kw (w4 I U hm ?_ G);refine PySem.W.callWith_K (h₀:=X.base) I.ok.mod.kin hk (cA (ha pos ah s σ H _ I h) λus s1 ⟨vs,a,O,r,q⟩=>⟨O.kIn,?_⟩) he M;exact Mr F T hb hd hx O r q
end
structure FnScope (N P:List Str)(sc:Scope):Prop where
 kind:sc.kind=.function
 co:sc.isCoroutine=false
 gen:sc.isGenerator=false
 nd:N.Nodup
 pre:N.take P.length=P
 par:∀x∈P,sc.names.lookup x=some .local\/sc.names.lookup x=some .cell
 nofree:∀y∈sc.names,y.2≠.free
theorem uc {kindOf:Str->Option NameKind}{x:Str}:∀ {binds:List (Str×Value)}{m:SV},(∀v,(x,v)∉binds)->bindL kindOf binds m x=m x
 |[],_,_=>rfl
 | (n,v)::r,m,h=>by
  unfold bindL;rw[uc λw hw=>h w (mZ _ hw)];split
  ·have:x≠n:=by rintro rfl;exact h v mX
   simp[this]
  ·rfl
theorem ud {kindOf:Str->Option NameKind}{x:Str}:∀ {binds:List (Str×Value)}{m:SV},(∀v,(x,v)∉binds)->bindC kindOf binds m x=m x
 |[],_,_=>rfl
 | (n,v)::r,m,h=>by
  unfold bindC;rw[ud λw hw=>h w (mZ _ hw)];split
  ·rfl
  ·have:x≠n:=by rintro rfl;exact h v mX
   simp[this]
theorem ue {kindOf:Str->Option NameKind}{x:Str}{v:Value}:∀ {P:LS}{vs:LU}{i:Nat}{m:SV},P.Nodup->P[i]? = some x->vs[i]? = some v->kindOf x=some .local ->
  bindL kindOf (P.zip vs) m x=some v
 |[],_,_,_,_,h,_,_=>by simp at h
 |_::_,[],_,_,_,_,h,_=>by simp at h
 |p::P,w::vs,0,m,nd,h1,h2,hk=>by
  simp at h1 h2;subst h1;subst h2;show bindL kindOf ((p,w)::P.zip vs) m p=_;unfold bindL;rw[uc λv hv=>(nodup_cons.mp nd).1 (of_mem_zip hv).1,if_pos hk];simp
 |p::P,w::vs,i+1,m,nd,h1,h2,hk=>by
  show bindL kindOf ((p,w)::P.zip vs) m x=_;unfold bindL;exact ue (i:=i) (nodup_cons.mp nd).2 (by simpa using h1) (by simpa using h2) hk
theorem ug {kindOf:Str->Option NameKind}{x:Str}{v:Value}:∀ {P:LS}{vs:LU}{i:Nat}{m:SV},P.Nodup->P[i]? = some x->vs[i]? = some v->kindOf x≠some .local ->
  bindC kindOf (P.zip vs) m x=some v
 |[],_,_,_,_,h,_,_=>by simp at h
 |_::_,[],_,_,_,_,h,_=>by simp at h
 |p::P,w::vs,0,m,nd,h1,h2,hk=>by
  simp at h1 h2;subst h1;subst h2;show bindC kindOf ((p,w)::P.zip vs) m p=_;unfold bindC;rw[ud λv hv=>(nodup_cons.mp nd).1 (of_mem_zip hv).1,if_neg hk];simp
 |p::P,w::vs,i+1,m,nd,h1,h2,hk=>by
  show bindC kindOf ((p,w)::P.zip vs) m x=_;unfold bindC;exact ug (i:=i) (nodup_cons.mp nd).2 (by simpa using h1) (by simpa using h2) hk
noncomputable def jX (N:LS)(vs:List V):St:=vs.map some++List.replicate (N.length - vs.length) none
noncomputable def oh (CX:IA)(P:Program)(w:World)(K:Frag)(mg:SV)(base:Heap)(N:LS)(qual:Str)(scope:Scope)(f:Addr)(cd:Value)(A:Around)(outer:List Env)(s:Shared)(H:Hp)(E:XK):Cx where
 prog:=P
 w:=w
 K:=K
 mg:=mg
 base:=base
 A:=A.deeper (envOfC qual scope s.z f cd)
 N:=N
 s₀:=s
 H₀:=H
 env:=envOfC qual scope s.z f cd
 outer:=outer
 stack:=envOfC qual scope s.z f cd::outer
 ex:=[]
 calm:=true
 fn:=λ_=>true
 pn:=[]
 xe:=λe s'=>wpAny (model P w) (A.deeper (envOfC qual scope s.z f cd)) (leaving (envOfC qual scope s.z f cd) e) (λ_ G=>CX outer H s E e G) (λM G=>CX outer H s E M G) s'
def yj {sc:Scope}{n:Nat}{x:Str}(h:sc.names.lookup x=some .cell):∃c,(cellsFrom n sc.names []).lookup x=some c:=by
 have q:=PySem.W.cellsFrom_some sc.names n [] (.inl h);exact uU q
def D9 {CX:IA}{P:Program}{w:World}{K:Frag}{mg:SV}{base:Heap}{N ps:LS}{qual:Str}{scope:Scope}{f:Addr}{cd:Value}{A:Around}{outer:List Env}{s s1:Shared}{H:Hp}{E:XK}{us:LU}{vs:List V}
  (S:FnScope N ps scope) (hd:A.handled=none) (G:Env0 P w K mg base A outer s H) (hl:vs.length=ps.length) (r:bq vs us)
  (x:InCallC s s.z (bindL (envOfC qual scope s.z f cd).kindOf (ps.zip us) λ_=>none) (cellsFrom (s.z+1) scope.names []) (bindC (envOfC qual scope s.z f cd).kindOf (ps.zip us) λ_=>none) s1):
  Inv (oh CX P w K mg base N qual scope f cd A outer s H E) [] (jX N vs) H s1:=by
 have T:ps.length<=N.length:=by have:=congrArg List.length S.pre;rw[length_take]at this;omega
 obtain⟨h1,tk,rfl,hk⟩:=x.done;have M:∀b:Addr,b∉(oh CX P w K mg base N qual scope f cd A outer s H E).ex:=λb z=>absurd (show b∈([]:List Addr)from z) (by simp);refine⟨⟨G.mod,S.kind,rfl,rfl,vT _,λy z c h1 h2=>?_,λy hy=>?_,λy c _ h=>?_,λ_=>hd,Around.frames_deeper G.frames,.inr ⟨rfl,rfl⟩,λb z=>absurd z (M b),G.bs,G.bsz,λb _ _=>M b,λb z=>absurd z (M b),G.funs,G.frf⟩,
  rfl,G.bare,Un.kept hk,⟨_,x.toInCall.ns,λi y v h1 h2 h3=>?_⟩,λy c h=>⟨_,x.cell y c h⟩,G.hok.fresh (vT _),λy c h=>?_,λp hp=>absurd (show p∈([]:AO)from hp) (by simp),G.hok.kept hk,?_⟩
 ·exact name_of_addr x.apart (PySem.mem_of_lookup h1) (PySem.mem_of_lookup h2)
 ·have hy:scope.names.lookup y=some .cell\/scope.names.lookup y=some .free:=hy;rcases hy with hy|hy
  ·exact yj hy
  ·exact absurd rfl (S.nofree _ (PySem.mem_of_lookup hy))
 ·exact le_of_lt (x.above y c (PySem.mem_of_lookup h))
 ·have hi:i<vs.length:=by
   unfold jX at h2;by_cases hi:i<vs.length
   ·exact hi
   ·rw[getElem?_append_right (by simpa using hi)]at h2;rw[getElem?_replicate]at h2;split at h2<;>cases h2
  have ha:vs[i]? = some v:=by
   unfold jX at h2;rw[getElem?_append_left (by simpa using hi),vA]at h2;cases e:vs[i]? with
   |none=>rw[e]at h2;cases h2
   |some a=>rw[e]at h2;cases h2;rfl
  obtain⟨u,hu,U⟩:=r.get ha;have hp:ps[i]? = some y:=by
   rw[<-S.pre,List.getElem?_take_of_lt (by omega)];exact h1
  have O:ps.Nodup:=by rw[<-S.pre];exact S.nd.sublist (take_sublist _ _)
  refine⟨u,U,?_⟩;rcases S.par y (vL hp)with k|k
  ·exact .inl ⟨k,ue O hp hu k⟩
  ·obtain⟨c,e⟩:=yj (n:=s.z+1) k;refine .inr ⟨.inl k,c,e,?_⟩;have q:=x.cell y c e;rw[ug O hp hu (by show scope.names.lookup y≠_;rw[k];decide)]at q;exact q
 ·exact G.hok.fresh (le_of_lt (x.above y c (PySem.mem_of_lookup h)))
 ·unfold jX;show _=N.length;rw[uZ,vI,length_replicate];omega
def Fe {CX:IA}{P:Program}{w:World}{K:Frag}{mg:SV}{base:Heap}{k:Nat}{f:Addr}{name qual:Str}{params:Arguments}{G:List Stmt}{scope:Scope}{d kV doc pm cW ct oc:Value}{an od:Option Addr}
  {lI:Array (Option Value)}{N ps:LS}{sp:Sp}(i:K.lookup f=some ⟨oc,od,.func (fnOf name qual params G scope d kV doc pm an cW ct),lI⟩) (j:PySem.W.codeIn K cW qual=true) (S:FnScope N ps scope)
  (len:∀vs H Q E,sp vs H Q E->vs.length=ps.length)
  (O:∀(A:Around)(outer:List Env)(s:Shared)(H:Hp)(vs:List V)(Q:VK)(E:XK),eV k (A.deeper (envOfC qual scope s.z f cW))->sp vs H Q E ->
   ∃t,tI (oh CX P w K mg base N qual scope f cW A outer s H E) G t/\t { nx:=λ_ H'=>Q .non H',rt:=Q } (jX N vs) H):
  nW P w K mg base CX (k+1) f (fnOf name qual params G scope d kV doc pm an cW ct) ps sp:=by
 refine⟨len,λA outer s H args us vs Q E a U hb r g=>?_⟩;have hl:=len _ _ _ _ g;have h:K.In s.heap:=U.mod.kin.keeps λb o e=>(U.bs b o e).1;have l:s.heap.NoLimit:=U.mod.nolimit.keeps λb o e=>(U.bs b o e).1;have T:∀y∈ps.zip us,scope.names.lookup y.1=some .local\/(scope.names.lookup y.1=some .cell/\((cellsFrom (s.z+1) scope.names []).lookup y.1).isSome=true):=λ⟨n,v⟩ hy=>by
  rcases S.par n (of_mem_zip hy).1 with q|q
  ·exact .inl q
  ·exact .inr ⟨q,PySem.W.cellsFrom_some _ _ _ (.inl q)⟩
 refine codeAny_call_function a.depth (h _ _ i) rfl S.co S.gen rfl (PySem.W.codeRec_of h j) (hb _ _ _ _ ?_);refine wpAny_newFunctionEnv_cells S.kind T λenv he s1 x=>?_;subst he;refine⟨l.keeps x.toInCall.keep,codeAny_func ?_⟩;obtain⟨t,m,hq⟩:=O A outer s H vs Q E (a.deeper _) g;have I:Inv (oh CX P w K mg base N qual scope f cW A outer s H E) [] (jX N vs) H s1:=D9 S a.hd U hl r x;refine wpAny_mono (m [] s1 (jX N vs) H _ I hq) (λfl s' hs=>?_) λe s' hs=>hs;have iO:∀ {M:St}{H':Hp}{v:V}{u:Value},Inv (oh CX P w K mg base N qual scope f cW A outer s H E) [] M H' s'->bf v u->Q v H'->CE outer P w H s Q u s' :=
  λ{M H' v u} J c q=>⟨v,H',J.os,J.bare,J.base,J.hok,c,q⟩
 cases fl with
 |ret u=>
  obtain⟨v,M,H',J,c,q⟩:=hs;exact iO J c q
 |next=>
  obtain⟨M,H',J,q⟩:=hs;exact iO (v:=V.non) (u:=Value.none) J rfl q
 |brk=>
  obtain⟨_,_,_,q⟩:=hs;exact False.elim q
 |cont=>
  obtain⟨_,_,_,q⟩:=hs;exact False.elim q
section
variable {X:Cx}{x:Str}{p pos:Pos}{e:Expr}{es:QD}{t:TA}{id T:String}{r:List V->Hp->VK->Prop}
def TZ (r:List V->Hp->VK->Prop)(t:TA):TE:=λσ H Q=>t σ H λvs G=>r vs G Q
def qB (hc:cr X (.builtin id) r)(O:Gl X x)(hm:X.mg x=none)(hv:bootBuiltins x=some (.builtin id))(ha:PA X (e::es) t)(hn:x ≠ "__name__":=by decide)(G:(x == ("__debug__" : Str))=false:=by decide)
  (he:starEach (e::es) X.env=(false,eval e X.env)::starEach es X.env:=by rfl) (M:(backTo pos (starEach es X.env)).any (·.1)=false:=by rfl):PE X (.Call (.Name x p) (e::es) [] pos) (TZ r t):=by
 intro ah s σ H Q I h;refine wpAny_Call_Name_kw (io I O hm hv ?_ hn G);exact PyProof.Rows.callWith_builtin1 (cA (ha pos ah s σ H _ I h) λus s1 ⟨vs,U,a,b,c⟩=>hc ah s1 σ U vs us Q a b c) he M
def oi (hc:cr X (.type T) r)(O:Gl X x)(hm:X.mg x=none)(hv:bootBuiltins x=some (.type T))(ha:PA X (e::es) t)(hn:x ≠ "__name__":=by decide)(G:(x == ("__debug__" : Str))=false:=by decide)
  (he:starEach (e::es) X.env=(false,eval e X.env)::starEach es X.env:=by rfl) (M:(backTo pos (starEach es X.env)).any (·.1)=false:=by rfl):PE X (.Call (.Name x p) (e::es) [] pos) (TZ r t):=by
 intro ah s σ H Q I h;refine wpAny_Call_Name_kw (io I O hm hv ?_ hn G);exact PyProof.Rows.callWith_type1 (cA (ha pos ah s σ H _ I h) λus s1 ⟨vs,U,a,b,c⟩=>hc ah s1 σ U vs us Q a b c) he M
end
end L2
namespace HT
open PySem PyProof.Rows
section
open PySem.SeqAt
open PySem.AutoSeq1 (wpAny_loadPart')
open PySem.MeetsSeq PySem.MeetsSeq2 PySem.MeetsSeq3
end
section
variable {prog:Program}{w:World}{A:Around}{E:QV}{s:Shared}
def IC (c:IsTup s.heap t vs.toArray)(hb:IsTup s.heap b ws.toArray)(hv:vs≠[])
  (h1:ws=[]->Q (.ref t) s) (h2:ws≠[]->Q (.ref s.z) { s with heap:=s.heap.push { cls:=.type "tuple",data:=.seq (vs++ws).toArray } })
  (hsz:vs.length+ws.length<=sizeLine):wpAny (model prog w) A (binaryOp .Add (.ref t) (.ref b)) Q E s:=by
 obtain⟨⟨cls,dd,data,sl⟩,a,hc,n,hd⟩:=id c;obtain⟨⟨d,M,data2,O⟩,G,T,n2,U⟩:=id hb;simp only at hc hd T U;subst hc hd T U;have e:vs.toArray++ws.toArray=(vs++ws).toArray:=by simp
 by_cases hw:ws=[]
 ·exact concat_meets ⟨_,a,rfl⟩ ⟨_,G,rfl⟩ noFill_tuple_add seq_tuple_add slot_tuple_add entry_tuple_add (args_tuple_add_2 _ _)
   (tuple_addW1 t b vs.toArray ws.toArray n n2 dd M sl O (by simpa using hv) (by simp[hw])) ⟨a,G,h1 hw⟩
 ·refine concat_meets ⟨_,a,rfl⟩ ⟨_,G,rfl⟩ noFill_tuple_add seq_tuple_add slot_tuple_add entry_tuple_add (args_tuple_add_2 _ _)
   (tuple_addW2 t b vs.toArray ws.toArray n n2 dd M sl O (by simpa using hv) (by simpa using hw) (by rw[vH,vH];exact hsz)) ⟨a,G,?_⟩
  rw[e];exact h2 hw
noncomputable def dS (n d:Nat):OI->Nat
 |none=>d
 |some v=>if v<0 then (v+(n:Int)).toNat else min v.toNat n
def Ff (n d:Nat):dS n d none=d:=rfl
def ID (n d k:Nat):dS n d (some (k:Int))=min k n:=by
 show(if(k:Int)<0 then ((k:Int)+(n:Int)).toNat else min (k:Int).toNat n)=min k n;rw[if_neg (by omega),toNat_natCast]
def Ms (n d:Nat)(hd:d<=n)(o:OI):dS n d o<=n:=by
 cases o with
 |none=>exact hd
 |some v=>
  show(if v<0 then (v+(n:Int)).toNat else min v.toNat n)<=n;by_cases hv:v<0
  ·rw[if_pos hv];omega
  ·rw[if_neg hv];exact Nat.min_le_right _ _
def BJ (v:Int)(n d:Nat):(if v<0 then max (v+(n:Int)) 0 else min v (n:Int))=((dS n d (some v):Nat):Int):=by
 show(if v<0 then max (v+(n:Int)) 0 else min v (n:Int))=(((if v<0 then (v+(n:Int)).toNat else min v.toNat n):Nat):Int);by_cases hv:v<0
 ·simp only[if_pos hv];omega
 ·simp only[if_neg hv];omega
def A5 (lo hi:OI)(n:Nat):Builtin.Slice.sliceAdjust lo hi 1 (n:Int)=(((dS n 0 lo:Nat):Int),((dS n n hi:Nat):Int)):=by
 have h1:¬((1:Int)<0):=by omega
 unfold Builtin.Slice.sliceAdjust;simp only[h1,if_false];refine Prod.ext ?_ ?_
 ·cases lo with
  |none=>rfl
  |some v=>exact BJ v n 0
 ·cases hi with
  |none=>rfl
  |some v=>exact BJ v n n
def A6 (i j:Nat):Builtin.Slice.slicePlaces (i:Int) (j:Int) 1=j - i:=by
 unfold Builtin.Slice.slicePlaces;have h1:(1:Int) > 0:=by omega
 simp only[h1,if_true,Int.ediv_one];split<;>omega
def qC (p:IsPart v o)(h:Q o s):wpAny (model prog w) A (Builtin.Slice.slicePartIndex v) Q E s:=by
 cases p with
 |none=>exact slicePart_none h
 |int i t=>exact slicePart_int h
def jp {sl:Addr}{vl O:Value}{lo hi:OI}{n:Nat}{Q:Int×Int×Nat->Shared->Prop}(hs:s.heap.IsSliceOf sl vl O .none)(pl:IsPart vl lo)(T:IsPart O hi)
  (h:Q (((dS n 0 lo:Nat):Int),1,dS n n hi - dS n 0 lo) s):wpAny (model prog w) A (Builtin.Slice.sliceApplied (.ref sl) (pure (n:Int))) Q E s:=by
 obtain⟨os,G,U,M⟩:=id hs;unfold Builtin.Slice.sliceApplied Builtin.Slice.sliceFields;refine wX (wX (wpAny_field G M (x:=vl) rfl (wX (wpAny_field G M (x:=O) rfl (wX (wpAny_field G M (x:=.none) rfl (wY ?_)))))));refine wX (slicePart_none ?_);show wpAny _ _ (if((1:Int) == 0)=true then _ else _) _ _ s;rw[if_neg (by decide)];refine wX (qC pl (wX (qC T (wX (wY ?_)))));show wpAny _ _ (match Builtin.Slice.sliceAdjust lo hi 1 (n:Int) with|(lo,hi)=>pure (lo,(1:Int),Builtin.Slice.slicePlaces lo hi 1)) _ _ s;rw[A5 lo hi n];show wpAny _ _ (pure (((dS n 0 lo:Nat):Int),(1:Int),Builtin.Slice.slicePlaces ((dS n 0 lo:Nat):Int) ((dS n n hi:Nat):Int) 1)) _ _ s;rw[A6];exact wY h
def Fg (xs:AV)(i k:Nat):((List.range k).filterMap λ(m:Nat)=>xs[((i:Int)+(m:Int)*1).toNat]?).toArray=((xs.toList.drop i).take k).toArray:=by
 have e:(λ(m:Nat)=>xs[((i:Int)+(m:Int)*1).toNat]?)=λm=>xs[i+m]?:=by
  funext m;have:((i:Int)+(m:Int)*1).toNat=i+m:=by omega
  rw[this]
 rw[e];have:=pick_run xs i k;rw[List.filterMap_map]at this;have e2:((λx=>xs[x]?) ∘ λx=>i+x)=λm=>xs[i+m]?:=rfl;rw[e2]at this;rw[this]
def mG {t sl:Addr}{items:AV}{vl a:Value}{lo hi:OI}{Q:QV}(M:IsTup s.heap t items)(hs:s.heap.IsSliceOf sl vl a .none)(pl:IsPart vl lo)(b:IsPart a hi)
  (hw:¬(dS items.size 0 lo=0/\dS items.size items.size hi=items.size))
  (h:Q (.ref s.z) { s with heap:=s.heap.push { cls:=.type "tuple",data:=.seq ((items.toList.drop (dS items.size 0 lo)).take (dS items.size items.size hi - dS items.size 0 lo)).toArray } })
  (hsz:items.size<=sizeLine):wpAny (model prog w) A (getItem (.ref t) (.ref sl)) Q E s:=by
 have G:sizeOk (.seq ((items.toList.drop (dS items.size 0 lo)).take (dS items.size items.size hi - dS items.size 0 lo)).toArray):=by
  show((items.toList.drop (dS items.size 0 lo)).take (dS items.size items.size hi - dS items.size 0 lo)).toArray.size<=sizeLine
  rw[vH,length_take,length_drop,vG]
  omega
 have hj:dS items.size items.size hi<=items.size:=Ms _ _ (vT _) hi
 obtain⟨os,O,T,d⟩:=id hs
 have U:s.TypeIs (.ref sl) "slice":=⟨os,O,T⟩
 unfold getItem
 try with_reducible refine wpAny_holding ?_
 first|refine wX (wY ?_)|skip
 refine wX (wpAny_sequenceKey M.typeIs (by decide) ?_)
 refine wX (wpAny_callSpecial?_slot (name:=Str.ofString "__getitem__") M.typeIs PyProof.Rows.slot_tuple_getitem
  (wpAny_call_entry PyProof.Rows.slot_tuple_getitem M.typeIs entry_tuple_getitem ?_ (args_tuple_getitem _ _)))
 show wpAny _ _ (Builtin.Tuple.tupleItemsOf (.ref t)>>=_) _ _ s
 refine wX (tupleItemsOf_ M ?_)
 refine wX (wpAny_typeOf U ?_)
 rw[if_pos (by decide)]
 refine wX (jp hs pl b ?_)
 have c:¬((((dS items.size 0 lo:Nat):Int) == 0 && (1:Int) == 1 && (dS items.size items.size hi - dS items.size 0 lo) == items.size)=true):=by
  intro q
  rw[vC,vC]at q
  have e:((dS items.size 0 lo:Nat):Int)=0:=eq_of_beq q.1.1
  have f:dS items.size items.size hi - dS items.size 0 lo=items.size:=eq_of_beq q.2
  exact hw ⟨by omega,by omega⟩
 show wpAny _ _ (if(((dS items.size 0 lo:Nat):Int) == 0 && (1:Int) == 1 && (dS items.size items.size hi - dS items.size 0 lo) == items.size)=true then _ else _) _ _ s
 rw[if_neg c,Fg]
 first
  |exact wX (m:=Builtin.Tuple.tupleExact _) (wpAny_newObj_type (wY ⟨_,rfl,wY h⟩) G)
  |exact wX (m:=Builtin.Tuple.tupleExact _) (wpAny_newObj_type (wX (wY (wY ⟨_,rfl,wY h⟩))) G)
  |exact wX (wX (m:=Builtin.Tuple.tupleExact _) (wpAny_newObj_type (wY (wY ⟨_,rfl,wY h⟩)) G))
  |exact wX (wX (m:=Builtin.Tuple.tupleExact _) (wpAny_newObj_type (wY ⟨_,rfl,wY h⟩) G))
end
end HT
namespace L2
open PySem PySem.Spec PyProof.Rows
abbrev TO:=St->Hp->(OI->Hp->Prop)->Prop
def PO (X:Cx)(e:Option Expr)(t:TO):Prop :=
 ∀(ah:AO)(s:Shared)(σ:St)(H:Hp)(Q:OI->Hp->Prop),Inv X ah σ H s->t σ H Q ->
  wq X (evalPart e X.env) (λu s'=>∃o H',Inv X ah σ H' s'/\IsPart u o/\Q o H') X.xe s
def IE:TO:=λ_ H Q=>Q none H
def OU (t:TE):TO:=λσ H Q=>t σ H λx G=>∃i,x=.int i/\Q (some i) G
section
variable {X:Cx}{e:Expr}{te:TE}{lo hi:Option Expr}{tl th:TO}{pos p2:Pos}
def IF:PO X none IE:=by
 intro ah s σ H Q I h;rw[evalPart_none];exact wY ⟨none,H,I,.none,h⟩
def IG (h:PE X e te):PO X (some e) (OU te):=by
 intro ah s σ H Q I hw;rw[evalPart_some];refine cA (h ah s σ H _ I hw) λu s1 ⟨x,G,M,O,T⟩=>?_;obtain⟨i,rfl,q⟩:=T;obtain⟨t,rfl⟩:=O;exact⟨some i,G,M,.int i t,q⟩
def EL (X:Cx)(r:V->OI->OI->Hp->VK->Prop):Prop :=
 ∀(ah:AO)(s:Shared)(σ:St)(H:Hp)(x:V)(v vl G:Value)(lo hi:OI)(sl:Addr)(Q:VK),Inv X ah σ H s->bf x v->s.heap.IsSliceOf sl vl G .none->IsPart vl lo->IsPart G hi->r x lo hi H Q ->
  ∃T id,typeLookup (.type T) "__getitem__" = pure (some (.builtin id))/\s.TypeIs v T/\wq X (getItem v (.ref sl)) (EP X ah σ Q) X.xe s
def EL.or (h:EL X r)(h':EL X T):EL X (λx lo hi H Q=>r x lo hi H Q\/T x lo hi H Q):=by
 intro ah s σ H x v vl G lo hi sl Q I M hs pl O q;rcases q with q|q
 ·exact h ah s σ H x v vl G lo hi sl Q I M hs pl O q
 ·exact h' ah s σ H x v vl G lo hi sl Q I M hs pl O q
def V9 (r:V->OI->OI->Hp->VK->Prop)(te:TE)(tl th:TO):TE:=λσ H Q=>te σ H λx G=>tl σ G λl H2=>th σ H2 λu M=>r x l u M Q
def Fh (U:EL X r)(he:PE X e te)(hl:PO X lo tl)(hu:PO X hi th):PE X (.Subscript e (.Slice lo hi none p2) pos) (V9 r te tl th):=by
 intro ah s σ H Q I h;refine Subscript_ (cA (he ah s σ H _ I h) λv s1 ⟨x,a,c,d,f⟩=>?_);refine wpAny_Slice (cA (hl ah s1 σ a _ c f) λvl s2 ⟨l,H2,g,pl,i⟩=>cA (hu ah s2 σ H2 _ g i) λM G ⟨u,O,j,k,m⟩=>?_);rw[evalPart_none];refine wY ?_;have n:Inv X ah σ O { G with heap:=G.heap.push { cls:=.type "slice",data:=.fields #[vl,M,.none] } }:=j.kept (t':=G.toks) λb ob q=>vZ _ q;obtain⟨T,id,o,p,t⟩:=U ah { G with heap:=G.heap.push { cls:=.type "slice",data:=.fields #[vl,M,.none] } } σ O x v vl M l u G.z Q n d (Heap.IsSliceOf.new ..) pl k m;show wq X (subscriptTail e (.Slice lo hi none p2) v (.ref G.z)) (EP X ah σ Q) X.xe { G with heap:=G.heap.push { cls:=.type "slice",data:=.fields #[vl,M,.none] } };exact tail_any (ops:=[.ref G.z,v]) p o t (by with_unfolding_all rfl)
def tJ (xs:List V)(lo hi:OI):List V:=(xs.drop (HT.dS xs.length 0 lo)).take (HT.dS xs.length xs.length hi - HT.dS xs.length 0 lo)
def pe (xs:List V)(lo hi:OI):(tJ xs lo hi).length<=xs.length:=by
 unfold tJ;rw[length_take,length_drop];omega
def RH (K:Frag):V->OI->OI->Hp->VK->Prop:=λx lo hi H Q=>∃a xs,x=.ref a/\iP K H a xs /\
 ¬(HT.dS xs.length 0 lo=0/\HT.dS xs.length xs.length hi=xs.length)/\∀p,H p=none->Q (.ref p) (upd H p (.tup (tJ xs lo hi)))
def Mt:EL X (RH X.K):=by
 intro ah s σ H x v vl U lo hi sl Q I O hs pl T h;obtain⟨a,xs,rfl,hx,hw,q⟩:=h;cases O
 obtain⟨its,r,M,hz⟩:=I.tuple hx;have G:its.toArray.size=xs.length:=by rw[vH];exact r.length.symm
 refine⟨"tuple",_,PyProof.Rows.slot_tuple_getitem.lookup,M.typeIs,?_⟩;refine HT.mG M hs pl T (by rw[G];exact hw) ?_ (by rw[G];exact hz);rw[G];refine⟨.ref s.z,_,I.laid (t':=s.toks) (o:=.tup (tJ xs lo hi)) (λb ob q=>vZ _ q) (vT _) ?_,rfl,q _ (I.hok.fresh (vT _))⟩;exact⟨vR (pe xs lo hi) hz,_,(r.drop (HT.dS xs.length 0 lo)).take (HT.dS xs.length xs.length hi - HT.dS xs.length 0 lo),IsTup.new _ _⟩
def OV (K:Frag):R2:=λx y H Q=>∃a b xs ys,x=.ref a/\y=.ref b/\iP K H a xs/\iP K H b ys/\xs≠[]/\xs.length+ys.length<=sizeLine /\
 (ys=[]->Q (.ref a) H)/\(ys≠[]->∀p,H p=none->Q (.ref p) (upd H p (.tup (xs++ys))))
def bq.nil_iff (r:bq xs us):us=[]↔xs=[]:=by
 cases r with
 |nil=>simp
 |cons _ _=>simp
def IH:dI X (binaryOp .Add) (OV X.K):=by
 intro ah s σ H x y v u Q I T U h;obtain⟨a,b,xs,ys,rfl,rfl,ha,hb,hx,hz,c,d⟩:=h;cases T
 cases U
 obtain⟨its,M,f,_⟩:=I.tuple ha;obtain⟨O,G,p2,_⟩:=I.tuple hb;refine HT.IC f p2 (λz=>hx (M.nil_iff.mp z)) (λz=>⟨.ref a,H,I,rfl,c (G.nil_iff.mp z)⟩) (λz=>?_) (by rw[<-M.length,<-G.length];exact hz);refine⟨.ref s.z,_,I.laid (t':=s.toks) (o:=.tup (xs++ys)) (λb ob q=>vZ _ q) (vT _) ?_,rfl,d (λw=>z (G.nil_iff.mpr w)) _ (I.hok.fresh (vT _))⟩;exact⟨by rw[uZ];exact hz,_,M.append G,IsTup.new _ _⟩
end
def Fi (n:Nat)(i:Int):Option Nat:=if 0<=i then (if i<n then some i.toNat else none)else if -(n:Int)<=i then some (i+n).toNat else none
def mH {α:Type}(xs:List α)(i:Int):Option α:=(Fi xs.length i).bind λj=>xs[j]?
def II (h:Fi n i=some j):seqIndex? i n=some j/\j<n/\-(n:Int)<=i/\i<n:=by
 unfold Fi at h;by_cases h0:0<=i
 ·rw[if_pos h0]at h;by_cases h1:i<n
  ·rw[if_pos h1]at h;have e:i.toNat=j:=vK h;exact⟨by rw[seqIndex_of h0 h1,e],by omega,by omega,h1⟩
  ·rw[if_neg h1]at h;cases h
 ·rw[if_neg h0]at h;by_cases h1 : -(n:Int)<=i
  ·rw[if_pos h1]at h;have e:(i+n).toNat=j:=vK h;exact⟨by rw[seqIndex_neg (by omega) h1,e],by omega,h1,by omega⟩
  ·rw[if_neg h1]at h;cases h
def wB {α:Type}{xs:List α}{i:Int}{v:α}(h:mH xs i=some v):∃j,seqIndex? i xs.length=some j/\xs[j]? = some v/\j<xs.length/\-(xs.length:Int)<=i/\i<xs.length:=by
 unfold mH at h;cases e:Fi xs.length i with
 |none=>rw[e]at h;cases h
 |some j=>
  rw[e]at h;obtain⟨h1,h2,h3,h4⟩:=II e;exact⟨j,h1,h,h2,h3,h4⟩
def IJ {α:Type}{xs:List α}{j:Nat}{v:α}(h:xs[j]? = some v):mH xs (j:Int)=some v:=by
 have hj:j<xs.length:=(vV h).1;have e:Fi xs.length (j:Int)=some j:=by
  unfold Fi;rw[if_pos (by omega),if_pos (by omega)];simp
 unfold mH;rw[e];exact h
def mI (b:Expr):Prop:=∀o i,subscripted b false o i=operate [o,i] (getItem o i)
def Fj (X:Cx)(r:R2):Prop :=
 ∀(M G:Expr)(ah:AO)(s:Shared)(σ:St)(H:Hp)(x y:V)(v u:Value)(Q:VK),Inv X ah σ H s->bf x v->bf y u->r x y H Q ->
  subscripted G false v u=operate [v,u] (getItem v u)->wq X (subscriptTail M G v u) (EP X ah σ Q) X.xe s
def Mu (X:Cx)(id:String)(r:V->List V->Hp->VK->Prop):Prop :=
 ∀(ah:AO)(s:Shared)(σ:St)(H:Hp)(x:V)(xs:List V)(v:Value)(us:LU)(Q:VK),Inv X ah σ H s->bf x v->bq xs us->r x xs H Q ->
  wq X (call (.builtin id) (v::us)) (EP X ah σ Q) X.xe s
section
variable {X:Cx}{a b:Expr}{ta tb:TE}{pos:Pos}
def Fj.or (h:Fj X r)(h':Fj X U):Fj X (λx y H Q=>r x y H Q\/U x y H Q):=by
 intro G M ah s σ H x y v u Q I O T q hs;rcases q with q|q
 ·exact h G M ah s σ H x y v u Q I O T q hs
 ·exact h' G M ah s σ H x y v u Q I O T q hs
def Mu.or {id:String}{r G:V->List V->Hp->VK->Prop}(h:Mu X id r)(h':Mu X id G):Mu X id (λx xs H Q=>r x xs H Q\/G x xs H Q):=by
 intro ah s σ H x xs v us Q I M O q;rcases q with q|q
 ·exact h ah s σ H x xs v us Q I M O q
 ·exact h' ah s σ H x xs v us Q I M O q
def Fk (G:Fj X r)(ha:PE X a ta)(hb:PE X b tb)(hs:mI b):PE X (.Subscript a b pos) (QS r ta tb):=by
 intro ah s σ H Q I h;exact Subscript_ (Mh ha hb I h λv u s2 x y H2 M O T q=>G a b ah s2 σ H2 x y v u Q M O T q (hs _ _))
def RI (K:Frag):R2:=λx y H Q=>∃p xs i v,x=.ref p/\y=.int i/\gN K H p xs/\mH xs i=some v/\Q v H
def RJ (K:Frag):R2:=λx y H Q=>∃p xs i v,x=.ref p/\y=.int i/\iP K H p xs/\mH xs i=some v/\Q v H
def RK:R2:=λx y H Q=>∃z i c,x=.str z/\y=.int i/\z.length<=sizeLine/\mH z.cps.toList i=some c/\Q (.str ⟨#[c]⟩) H
def IK:Fj X (RI X.K):=by
 intro G M ah s σ H x y v u Q I U c h hs;obtain⟨p,xs,i,z,rfl,rfl,hq,he,q⟩:=h;cases U
 obtain⟨t,rfl⟩:=c;obtain⟨its,r,pl,hz⟩:=I.list hq;obtain⟨j,h1,h2,h3,h4,h5⟩:=wB he;obtain⟨w,T,O⟩:=r.get h2;have hl:=r.length;have hn:=qA;have iO:EP X ah σ Q w s:=⟨z,H,I,O,q⟩;by_cases h0:0<=i
 ·have hj:i.toNat=j:=by
   rw[seqIndex_of h0 h5]at h1;exact vK h1
  exact item_listR pl.isList h0 (by omega) (by rw[hj];simpa using T) iO hs
 ·have hj:(i+(its.toArray.size:Int)).toNat=j:=by
   rw[seqIndex_neg (by omega) h4]at h1;rw[vH,<-hl];exact vK h1
  exact subscriptTail_builtinR (x:=w) pl.isList.typeIs slot_list_getitem.lookup
   (wpAny_getItem_list_neg (Q:=λr s'=>r=w/\EP X ah σ Q r s') pl.isList (by omega) (by rw[vH]<;>omega) (by omega) (by rw[hj];simpa using T) ⟨rfl,iO⟩) hs
def Fl:Fj X (RJ X.K):=by
 intro G M ah s σ H x y v u Q I T U h hs;obtain⟨p,xs,i,z,rfl,rfl,hq,he,q⟩:=h;cases T
 obtain⟨t,rfl⟩:=U;obtain⟨its,r,pl,hz⟩:=I.tuple hq;obtain⟨j,h1,h2,h3,h4,h5⟩:=wB he;obtain⟨w,c,O⟩:=r.get h2;have hl:=r.length;have hn:=qA;have iO:EP X ah σ Q w s:=⟨z,H,I,O,q⟩;exact subscriptTail_builtinR (x:=w) pl.typeIs slot_tuple_getitem.lookup
  (getItem_tuple (j:=j) (Q:=λr s'=>r=w/\EP X ah σ Q r s') pl (by omega) (by omega) (by rw[vH,<-hl];exact h1) (by simpa using c) ⟨rfl,iO⟩) hs
def Fm:Fj X RK:=by
 intro G M ah s σ H x y v u Q I O T h hs;obtain⟨z,i,c,rfl,rfl,hz,he,q⟩:=h;obtain⟨t,rfl⟩:=O;obtain⟨t',rfl⟩:=T;obtain⟨j,h1,h2,h3,h4,h5⟩:=wB he;have hl:z.cps.toList.length=z.length:=by simp[Str.length]
 rw[hl]at h1 h4 h5;have hn:=qA;exact tail_any (typeIs_str s z t) slot_str_getitem.lookup (getItem_str (c:=c) (by
  have U:decide (i < -(2 ^ 63:Int))=false:=Qn (by omega);have e2:decide (i ≥ 2 ^ 63)=false:=Qn (by omega);rw[U,e2,Bool.or_false]) (by rw[h1];simpa using h2) ⟨.str ⟨#[c]⟩,H,I.tok _,⟨_,rfl⟩,q⟩) hs
def Inv.lst (I:Inv X ah σ H s)(h:H p=some (.lst xs)):
  ∃(its:LU)(n:Nat),bq xs its/\s.heap.get? p=some { cls:=.type "list",data:=.seq its.toArray n }/\xs.length<=sizeLine:=by
 obtain⟨z,its,n,r,e⟩:=I.hok p _ h;exact⟨its,n,r,e,z⟩
def wD (lo hi:OI)(n:Nat):(sliceBounds lo hi none n).1=((HT.dS n 0 lo:Nat):Int)/\(sliceBounds lo hi none n).2.1=((HT.dS n n hi:Nat):Int)/\(sliceBounds lo hi none n).2.2=1:=by
 refine⟨?_,?_,rfl⟩
 ·cases lo with
  |none=>simp[sliceBounds,HT.dS]
  |some i=>
   simp only[sliceBounds,HT.dS,getD_none,show(1:Int) > 0 by decide,if_true];by_cases h:i<0
   ·simp only[h,if_true]<;>omega
   ·simp only[h,if_false]<;>omega
 ·cases hi with
  |none=>simp[sliceBounds,HT.dS]
  |some i=>
   simp only[sliceBounds,HT.dS,getD_none,show(1:Int) > 0 by decide,if_true];by_cases h:i<0
   ·simp only[h,if_true]<;>omega
   ·simp only[h,if_false]<;>omega
def tK (its:LU)(lo hi:OI):slicePick its.toArray lo hi none=((its.drop (HT.dS its.length 0 lo)).take (HT.dS its.length its.length hi - HT.dS its.length 0 lo)).toArray:=by
 obtain⟨h1,h2,h3⟩:=wD lo hi its.toArray.size;unfold slicePick;rw[h1,h2,h3];simp only[sliceRange_one,pick_run,vH]<;>rfl
def RL (K:Frag):V->OI->OI->Hp->VK->Prop:=λx lo hi H Q=>∃a xs,x=.ref a/\gN K H a xs/\∀p,H p=none->Q (.ref p) (upd H p (.lst (tJ xs lo hi)))
def IL:EL X (RL X.K):=by
 intro ah s σ H x v vl U lo hi sl Q I O hs pl T h;obtain⟨a,xs,rfl,hx,q⟩:=h;cases O
 obtain⟨its,r,M,hz⟩:=I.list hx;have G:=r.length;refine⟨"list",_,slot_list_getitem.lookup,M.isList.typeIs,?_⟩;refine wpAny_getItem_list_slice M.isList hs pl T .none (by simp) ?_ (by rw[vH]<;>omega)
 rw[tK,<-G];refine⟨.ref s.z,_,I.laid (t':=s.toks) (o:=.lst (tJ xs lo hi)) (λb ob q=>vZ _ q) (vT _) ?_,rfl,q _ (I.hok.fresh (vT _))⟩;exact⟨vR (pe xs lo hi) hz,_,0,(r.drop (HT.dS xs.length 0 lo)).take (HT.dS xs.length xs.length hi - HT.dS xs.length 0 lo),vY _ rfl⟩
noncomputable def lM:V->Bool
 |.non=>true
 |.bl _=>true
 |.int _=>true
 |.str _=>true
 |_=>false
def Ic:V->V->Bool
 |.non,.non=>true
 |.bl a,.bl b=>a == b
 |.bl a,.int b=>(if a then 1 else 0) == b
 |.int a,.bl b=>a == (if b then 1 else 0)
 |.int a,.int b=>a == b
 |.str a,.str b=>a == b
 |_,_=>false
def Mv (M:bf y u)(G:bf x v)(T:lM y=true)(O:lM x=true):SeqAt.EqAt A s u v (Ic y x):=by
 cases y with
 |non=>
  cases M
  cases x with
  |non=>cases G;exact SeqAt.EqAt.same _
  |bl b=>cases G;exact SeqAt.EqAt.none_bool b
  |int b=>obtain⟨t,rfl⟩:=G;exact SeqAt.EqAt.none_int b t
  |str b=>obtain⟨t,rfl⟩:=G;exact SeqAt.EqAt.none_str b t
  |_=>exact absurd (show false=true from O) uX
 |bl a=>
  cases M
  cases x with
  |non=>cases G;exact SeqAt.EqAt.bool_none a
  |bl b=>cases G;exact SeqAt.EqAt.bool_bool a b
  |int b=>obtain⟨t,rfl⟩:=G;exact SeqAt.EqAt.bool_int a b t
  |str b=>obtain⟨t,rfl⟩:=G;exact SeqAt.EqAt.bool_str a b t
  |_=>exact absurd (show false=true from O) uX
 |int a=>
  obtain⟨t',rfl⟩:=M;cases x with
  |non=>cases G;exact SeqAt.EqAt.int_none a t'
  |bl b=>cases G;exact SeqAt.EqAt.int_bool a t' b
  |int b=>obtain⟨t,rfl⟩:=G;exact SeqAt.EqAt.int_int a t' b t
  |str b=>obtain⟨t,rfl⟩:=G;exact SeqAt.EqAt.int_str a t' b t
  |_=>exact absurd (show false=true from O) uX
 |str a=>
  obtain⟨t',rfl⟩:=M;cases x with
  |non=>cases G;exact SeqAt.EqAt.str_none a t'
  |bl b=>cases G;exact SeqAt.EqAt.str_bool a t' b
  |int b=>obtain⟨t,rfl⟩:=G;exact SeqAt.EqAt.str_int a t' b t
  |str b=>obtain⟨t,rfl⟩:=G;exact SeqAt.EqAt.str_str a t' b t
  |_=>exact absurd (show false=true from O) uX
 |_=>exact absurd (show false=true from T) uX
def A7 (x:V)(u:Value):Bool:=match u with
 |.none=>Ic .non x
 |.bool b=>Ic (.bl b) x
 |.int i _=>Ic (.int i) x
 |.str z _=>Ic (.str z) x
 |_=>false
def Fo (r:bf y u)(f:lM y=true):A7 x u=Ic y x:=by
 cases y with
 |non=>cases r;rfl
 |bl b=>cases r;rfl
 |int i=>obtain⟨t,rfl⟩:=r;rfl
 |str z=>obtain⟨t,rfl⟩:=r;rfl
 |_=>exact absurd (show false=true from f) uX
theorem mJ:∀ {xs:List V}{us:LU},bq xs us->xs.all lM=true->us.any (A7 x)=xs.any λy=>Ic y x
 |_,_,.nil,_=>rfl
 |y::xs,u::us,.cons r t,f=>by
  rw[all_cons,vC]at f;rw[any_cons,any_cons,Fo r f.1,mJ t f.2]
theorem km (G:bf x v)(M:lM x=true):∀ {xs:List V}{us:LU},bq xs us->xs.all lM=true->∀u∈us,SeqAt.EqAt A s u v (A7 x u)
 |_,_,.nil,_=>λu hu=>by cases hu
 |y::xs,u::us,.cons r t,f=>λO hu=>by
  rw[all_cons,vC]at f;rcases vP hu with rfl|hu
  ·rw[Fo r f.1];exact Mv r G f.1 M
  ·exact km G M t f.2 O hu
noncomputable def QT (x:V)(xs:List V):Bool:=xs.any λy=>Ic y x
def Ua (K:Frag)(G:Bool):R2:=λx y H Q=>∃p xs,y=.ref p/\(gN K H p xs\/iP K H p xs)/\lM x=true/\xs.all lM=true/\Q (.bl (if G then !QT x xs else QT x xs)) H
def DA:dI X (compareOp .In) (Ua X.K false):=by
 intro ah s σ H x y v u Q I G O h;obtain⟨p,xs,rfl,hq,M,fs,q⟩:=h;cases O
 rcases hq with hq|hq
 ·obtain⟨its,r,pl,hz⟩:=I.list hq;refine SeqAt.in_listAt (A7 x) pl.isList (λw hw=>km G M r fs w (by simpa using hw)) ⟨.bl _,H,I,rfl,?_⟩;rw[show its.toArray.any (A7 x)=its.any (A7 x) by simp,mJ r fs];exact q
 ·obtain⟨its,r,pl,hz⟩:=I.tuple hq;refine SeqAt.in_tupleAt (A7 x) pl (λw hw=>km G M r fs w (by simpa using hw)) ⟨.bl _,H,I,rfl,?_⟩;rw[show its.toArray.any (A7 x)=its.any (A7 x) by simp,mJ r fs];exact q
def wF:dI X (compareOp .NotIn) (Ua X.K true):=by
 intro ah s σ H x y v u Q I G O h;obtain⟨p,xs,rfl,hq,M,fs,q⟩:=h;cases O
 rcases hq with hq|hq
 ·obtain⟨its,r,pl,hz⟩:=I.list hq;refine SeqAt.notIn_listAt (A7 x) pl.isList (λw hw=>km G M r fs w (by simpa using hw)) ⟨.bl _,H,I,rfl,?_⟩;rw[show its.toArray.any (A7 x)=its.any (A7 x) by simp,mJ r fs];exact q
 ·obtain⟨its,r,pl,hz⟩:=I.tuple hq;refine SeqAt.notIn_tupleAt (A7 x) pl (λw hw=>km G M r fs w (by simpa using hw)) ⟨.bl _,H,I,rfl,?_⟩;rw[show its.toArray.any (A7 x)=its.any (A7 x) by simp,mJ r fs];exact q
def wG:cr X (.builtin "len") (λxs H Q=>∃p ys,xs=[.ref p]/\(gN X.K H p ys\/iP X.K H p ys)/\Q (.int ys.length) H):=by
 intro ah s σ H xs us Q I r h;obtain⟨p,ys,rfl,hq,q⟩:=h;obtain⟨u,rfl,O⟩:=iq r;cases O
 have hn:=qA;rcases hq with hq|hq
 ·obtain⟨its,M,pl,hz⟩:=I.list hq;have G:=M.length;exact Calls.call_len_list pl.isList (by simp only[vH]<;>omega) ⟨.int ys.length,H,I.tok _,⟨s.toks+1,by rw[vH,G]⟩,q⟩
 ·obtain⟨its,M,pl,hz⟩:=I.tuple hq;have G:=M.length;exact len_tuple pl (by simp only[vH]<;>omega) ⟨.int ys.length,H,I.tok _,⟨s.toks+1,by rw[vH,G]⟩,q⟩
def wH:cr X (.builtin "len") (λxs H Q=>∃z,xs=[.str z]/\z.length<=sizeLine/\Q (.int z.length) H):=by
 intro ah s σ H xs us Q I r h;obtain⟨z,rfl,hz,q⟩:=h;obtain⟨u,rfl,t,rfl⟩:=iq r;have hn:=qA;exact len_str (by omega) ⟨.int z.length,H,I.tok _,⟨_,rfl⟩,q⟩
def cr.or (h:cr X f r)(h':cr X f M):cr X f (λxs H Q=>r xs H Q\/M xs H Q):=by
 intro ah s σ H xs us Q I G q;rcases q with q|q
 ·exact h ah s σ H xs us Q I G q
 ·exact h' ah s σ H xs us Q I G q
def tL:cr X (.type "tuple") (λxs H Q=>∃p ys,xs=[.ref p]/\((gN X.K H p ys/\∀l,H l=none->Q (.ref l) (upd H l (.tup ys)))\/(iP X.K H p ys/\Q (.ref p) H))):=by
 intro ah s σ H xs us Q I r h;obtain⟨p,ys,rfl,h⟩:=h;obtain⟨u,rfl,T⟩:=iq r;cases T
 rcases h with⟨hq,q⟩|⟨hq,q⟩
 ·obtain⟨its,G,pl,hz⟩:=I.list hq;have M:=G.length;refine call_tuple_list pl.isList (λh' kp=>?_) (by simp only[vH]<;>omega)
  have O:Inv X ah σ H { s with heap:=h' }:=I.kept (t':=s.toks) kp;have U:Inv X ah σ (upd H h'.objs.size (.tup ys)) { s with heap:=h'.push { cls:=.type "tuple",data:=.seq its.toArray } } :=
   O.laid (t':=s.toks) (λb o e=>vZ _ e) (vT _) (show bI X.prog X.w _ _ _ (.tup ys)from ⟨hz,its,G,IsTup.new _ _⟩)
  exact⟨.ref h'.objs.size,_,U,rfl,q _ (O.hok.fresh (vT _))⟩
 ·obtain⟨its,G,pl,hz⟩:=I.tuple hq;exact call_tuple_same pl ⟨.ref p,H,I,rfl,q⟩
def Ub (K:Frag)(T:String)(x:V)(H:Hp):Prop:=match x with
 |.str _=>T = "str"
 |.int _=>T = "int"
 |.ref p=>(T = "list"/\∃xs,gN K H p xs)\/(T = "tuple"/\∃o,K.lookup p=some o/\o.cls=.type "tuple"/\o.dict=none) \/
   (T = "dict"/\((∃aK ob,H p=some (.dK aK ob))\/∃aK,H p=some (.dT aK)))\/(T = "set"/\∃S n,H p=some (.set S n))
 |_=>False
def A8 (I:Inv X ah σ H s)(r:bf x v)(ty:Ub X.K T x H):
  s.TypeIs v T/\∀a,v=.ref a->∃ob,s.heap.get? a=some ob/\ob.dict=none:=by
 cases x with
 |str z=>
  obtain⟨t,rfl⟩:=r;cases (show T = "str" from ty)
  exact⟨typeIs_str s z t,λ_ e=>nomatch e⟩
 |int i=>
  obtain⟨t,rfl⟩:=r;cases (show T = "int" from ty)
  exact⟨typeIs_int s i t,λ_ e=>nomatch e⟩
 |ref p=>
  cases r
  rcases ty with⟨rfl,xs,hq⟩|⟨rfl,o,hk,hc,hd⟩|⟨rfl,hk⟩|⟨rfl,S,n,hk⟩
  ·obtain⟨its,_,pl,_⟩:=I.list hq;refine⟨pl.isList.typeIs,λa e=>?_⟩;cases e
   obtain⟨o,n,e,c,hd,_⟩:=pl;exact⟨o,e,hd⟩
  ·refine⟨⟨o,I.kIn p o hk,hc⟩,λa e=>?_⟩;cases e
   exact⟨o,I.kIn _ o hk,hd⟩
  ·have z:∃o,s.heap.get? p=some o/\o.ExactDict:=by
    rcases hk with⟨aK,G,hk⟩|⟨aK,hk⟩
    ·obtain⟨_,_,_,_,_,o,_,_,e,ex,_⟩:=I.hok p _ hk;exact⟨o,e,ex⟩
    ·obtain⟨_,_,_,_,o,_,_,e,ex,_⟩:=I.hok p _ hk;exact⟨o,e,ex⟩
   obtain⟨o,e,ex⟩:=z;refine⟨⟨o,e,ex.1⟩,λa e2=>?_⟩;cases e2
   exact⟨o,e,ex.2.1⟩
  ·obtain⟨o,_,_,_,e,ex,_⟩:=I.hok p _ hk;refine⟨⟨o,e,ex.1⟩,λa e2=>?_⟩;cases e2
   exact⟨o,e,ex.2.1⟩
 |_=>exact False.elim ty
def VA (K:Frag)(T:String)(r:V->List V->Hp->VK->Prop)(to:TE)(t:TA):TE:=λσ H Q=>to σ H λx G=>Ub K T x G/\t σ G λxs H2=>r x xs H2 Q
variable {o e:Expr}{es:QD}{to:TE}{t:TA}{name:Str}{dL cB:Pos}{T id:String}{r:V->List V->Hp->VK->Prop}
def BK (g:PlainAttrs T)(slot:Slot T name id)(i:typeOf (.builtin id)=pure (.type "method_descriptor"))(hm:Mu X id r)(j:PE X o to)(ha:PA X (e::es) t)
  (M:attributeBase o name X.env (eval o X.env)=eval o X.env:=by rfl)
  (U:((backTo cB (starEach (e::es) X.env)).all (λx=>!x.1) && (backToKw cB (keywordEach [] X.env)).all (λx=>x.1.isSome)
   && decide ((e::es).length+([]:List Keyword).length+(if([]:List Keyword).isEmpty then 0 else 1)<30))=true:=by rfl)
  (O:(dL.endLine == cB.line)=true:=by rfl) (hs:starEach (e::es) X.env=(false,eval e X.env)::starEach es X.env:=by rfl) (G:(backTo cB (starEach es X.env)).any (·.1)=false:=by rfl):
  PE X (.Call (.Attribute o name dL) (e::es) [] cB) (VA X.K T r to t):=by
 intro ah s σ H Q I h;refine wpAny_Call_method_late M U O rfl (cA (j ah s σ H _ I h) λv s1 ⟨x,k,c,d,ty,l⟩=>?_);obtain⟨h1,h2⟩:=A8 c d ty;refine⟨T,id,g,slot,i,h1,h2,?_⟩;have f:=ha cB ah s1 σ k _ c l;rw[hs]at f |-;refine Calls.callWith_builtin (by show(false || (backTo cB (starEach es X.env)).any (·.1))=false;rw[G]<;>rfl) (Calls.evalArgs_plain ?_)
 exact cA f λus s2 ⟨vs,H2,m,n,p⟩=>hm ah s2 σ H2 x vs v us Q m d n p
/- xs.append(e),list.index on a module's tuple .. are Mu facts of 06m -/
end
def RM (X:Cx)(id:String)(r:V->List V->Hp->VK->Prop):Prop :=
 ∀(ah:AO)(s:Shared)(σ:St)(H:Hp)(x:V)(xs:List V)(v:Value)(us:LU)(Q:VK),Inv X ah σ H s->bf x v->bq xs us->r x xs H Q ->
  wq X (call (.builtin id) (v::us)) (EP X ah σ Q) X.xe s
def bq.one {x:V}{us:LU}(h:bq [x] us):∃u,us=[u]/\bf x u:=by
 cases h with
 |cons r h=>cases h;exact⟨_,rfl,r⟩
def bq.two {x y:V}{us:LU}(h:bq [x,y] us):∃u v,us=[u,v]/\bf x u/\bf y v:=by
 cases h with
 |cons r h=>
  obtain⟨v,rfl,q⟩:=bq.one h;exact⟨_,_,rfl,r,q⟩
theorem bq.zero:∀ {us:LU},bq [] us->us=[]
 |_,.nil=>rfl
section
variable {X:Cx}{ah:AO}{σ:St}{H:Hp}{s:Shared}{l b:Addr}{xs ys zs:List V}
def Inv.lset {its its':LU}{n:Nat}{f:AV->AV}{t':Nat}(I:Inv X ah σ H s)(G:H l=some (.lst xs))
  (e:s.heap.get? l=some { cls:=.type "list",data:=.seq its.toArray n }) (hf:f its.toArray=its'.toArray) (hv:bq ys its') (hz:ys.length<=sizeLine):
  Inv X ah σ (upd H l (.lst ys)) { s with heap:=s.heap.update l (Obj.mapSeq f),toks:=t' }:=by
 have q:=PySem.IsL.update e f;rw[hf]at q;refine I.write (x:=l) (e:=l) (by rw[G];exact trivial) (.inl rfl) (λM u hb hu=>(Heap.get?_update_other s.heap (Obj.mapSeq f) (Ne.symm hb)).trans hu) ⟨_,q⟩ ?_;exact⟨hz,its',_,hv,q⟩
def Inv.lnew (I:Inv X ah σ H s)(hv:bq ys its)(hz:ys.length<=sizeLine):
  Inv X ah σ (upd H s.z (.lst ys)) { s with heap:=s.heap.push { cls:=.type "list",data:=.seq its.toArray },toks:=t' } :=
 I.laid (λ_ _ q=>vZ _ q) (vT _) ⟨hz,its,0,hv,vY _ rfl⟩
def Inv.fresh (I:Inv X ah σ H s):H s.z=none:=I.hok.fresh (vT _)
def Inv.lstM (I:Inv X ah σ H s)(G:H l=some (.lst xs)):xs.length<=sizeLine/\∃(its:LU)(n:Nat),bq xs its/\xs.length=its.length/\s.heap.get? l=some { cls:=.type "list",data:=.seq its.toArray n }:=by
 obtain⟨z,its,n,r,e⟩:=I.hok l _ G;exact⟨z,its,n,r,r.length,e⟩
def Fp (h:n<=sizeLine):Builtin.List.listTooLong n=false:=by
 unfold Builtin.List.listTooLong;exact Qn (by omega)
end
section
variable {X:Cx}
def BL:V->List V->Hp->VK->Prop:=λx vs H Q=>∃l xs y,x=.ref l/\vs=[y]/\H l=some (.lst xs)/\xs.length<sizeLine/\Q .non (upd H l (.lst (xs++[y])))
def uh:RM X "list.append" BL:=by
 intro ah s σ H x vs v us Q I M O h;obtain⟨l,xs,y,rfl,rfl,G,hz,q⟩:=h;cases M
 obtain⟨u,rfl,ru⟩:=O.one;obtain⟨z,its,n,r,hl,e⟩:=I.lstM G;refine call_meets F.slot_list_append ⟨_,e,rfl⟩ F.entry_list_append (F.args_list_append_2 _ _) (PySem.list_append l its.toArray n u (by rw[vH];omega)) ⟨e,?_⟩;refine⟨.non,_,I.lset (its':=its++[u]) G e (by simp) (r.append (.cons ru .nil)) ?_,rfl,q⟩;rw[uZ,length_singleton];omega
def IM:V->List V->Hp->VK->Prop:=λx vs H Q=>∃l b xs zs,x=.ref l/\vs=[.ref b]/\H l=some (.lst xs)/\H b=some (.lst zs)/\xs.length+zs.length<=sizeLine/\Q .non (upd H l (.lst (xs++zs)))
def DB:RM X "list.extend" IM:=by
 intro ah s σ H x vs v us Q I T U h;obtain⟨l,b,xs,zs,rfl,rfl,O,a,hz,q⟩:=h;cases T
 obtain⟨u,rfl,ru⟩:=U.one;cases ru
 obtain⟨z,its,n,r,hl,e⟩:=I.lstM O;obtain⟨d,G,n2,c,f,e2⟩:=I.lstM a;have hsz:its.toArray.size+G.toArray.size<=sizeLine:=by rw[vH,vH];omega
 have M:¬(!its.toArray.isEmpty && Builtin.List.listTooLong (its.toArray.size+G.toArray.size))=true:=by
  rw[Fp hsz,Bool.and_false];exact uX
 refine call_meets F.slot_list_extend ⟨_,e,rfl⟩ F.entry_list_extend (F.args_list_extend_2 _ _)
  (AutoSeq1.list_extend_list_list_0 l its.toArray n b G.toArray n2 M (by rw[vH];omega) (by omega)) ⟨e,e2,?_⟩
 refine⟨.non,_,I.lset (its':=its++G) O e (by simp) (r.append c) ?_,rfl,q⟩;rw[uZ];omega
end
end L2
namespace Att
open PySem PySem.W PySem.Calls PyProof.Rows
def pW:∀(ns:LI)(vs:LU),WellAll P h vs (ns.map WData.int)->IntsAre vs ns:=by
 intro ns;induction ns with
 |nil=>
  intro vs w;rw[map_nil]at w;cases w
  exact .nil
 |cons n ns G=>
  intro vs w;rw[uY]at w;cases w with
  |cons a b=>
   cases a
   exact .cons _ _ (G _ b)
def DC {l:OpenLaw}{n:Nat}(hn:l.most=some n){P:Params}{h:Heap}{args:List WData}{vals:LU}
  (G:l.row.toRowW.claim.pre args=true) (T:WellAll P h vals args):
  ∃a vs ns,vals=[Value.ref a]/\args=[WData.list (ns.map WData.int)]/\h.get? a=some { cls:=.type "list",data:=.seq vs.toArray }/\IntsAre vs ns/\ns.length<=n:=by
 have U:WShape.hasAll [] args [.list .int]=true:=(pre_splitW G).1;have hc:l.pre.holds [] { args:=args }=true:=(pre_splitW G).2;obtain⟨d,r,rfl,h1,h2⟩:=hasAllW_cons U;obtain rfl:=hasAllW_nil h2;obtain⟨xs,rfl,h3⟩:=hasW_list h1;obtain⟨ns,rfl⟩:=items_int h3;have M:ns.length<=n:=by
  unfold OpenLaw.pre at hc;have h4:(WTm.not (.lt (.lit (.int (n:Int))) (.len (.arg 0)))).holds [] { args:=[.list (ns.map .int)] }=true:=by
   have h4:=(holds_andW hc).1;rw[hn]at h4;exact h4
  have h5:=condW_of h4 (w_not (w_lt w_lit (w_len_list (w_arg rfl))));rw[vI]at h5;refine Nat.le_of_not_lt λq=>?_;have b:(n:Int)<((ns.length:Nat):Int):=by omega
  first
   | (rw[As b]at h5;exact absurd h5 (by decide))
   | (simp at h5;omega)
 cases T with
 |cons c e=>
  cases e
  cases c with
  |list f O=>exact⟨_,_,ns,rfl,rfl,f,pW ns _ O,M⟩
def DD (l:OpenLaw)(args:List WData):l.row.toRowW.claim.post args (.bool true) args=true :=
 postW_of (r:=l.row.toRowW) (X:=(true == true))
  (show WShape.has [] (.bool true) .bool=true by first|rfl|decide|simp[WShape.has,WShape.arms,WShape.armsAll])
  (show(WTm.eq .res (.lit (.bool true))).value [] { args:=args,res:=some (.bool true),after:=args }=some (.bool (true == true))from w_eq_bool (w_res rfl) w_lit) rfl
def yk {l:OpenLaw}{n:Nat}{q:Program}{O:LS}{e:SV->Heap->Prop}{g:World->Heap->Prop}{d:DefRec}
  (hn:l.most=some n) (j:d.params.defaults=[])
  (call:∀(w:World)(s₀ M:Shared)(mg mb:SV)(fa:Addr)(o:Obj)(pm cd doc:Value)(a:Addr)(vs:LU)(ns:LI),
   Ground q O [] e w s₀ mg mb M.heap->g w M.heap ->
   M.heap.get? fa=some o->o.data=.func (docDef d.name d.params d.body d.scope pm cd doc)->M.heap.CodeRec cd d.name->mg d.name=some (.ref fa) ->
   M.heap.get? a=some { cls:=.type "list",data:=.seq vs.toArray }->IntsAre vs ns->ns.length<=n->M.gens=#[] ->
   codeAny (model l.prog w) callerA (.call (.ref fa) ⟨[.ref a],[]⟩) (λr s'=>r=.ok (.ret (.bool true))/\OldK M.heap s'.heap/\s'.os=M.os/\AllBare s'.gens) M):
  WalkO q O e g l.row.toRowW d [] (λf vs=>PySem.call f vs):=by
 intro w s₀ M mg mb G Y fa o pm cd doc k kV m hd p h b s args vals y U i t c u;obtain rfl:k=.none:=Dflts.none h j;obtain rfl:kV=.none:=Dflts.noKw h;obtain⟨a,vs,ns,rfl,rfl,v,T,x⟩:=DC hn U c;refine enter_call (codeAny_mono (call w s₀ M mg mb fa o pm cd doc a vs ns G Y m (fd_plain hd) p b v T x s) λr s' hq=>?_);obtain⟨rfl,h2,h3,h4⟩:=hq;exact⟨.inl ⟨.bool true,.bool true,[],rfl,λ_=>rfl,.bool true,DD l _,λ_=>⟨List.Pairwise.nil,λ_ hm=>(nomatch hm)⟩⟩,h2,h3,h4⟩
section
variable {prog:Program}{w:World}{A:Around}{E:QV}{s:Shared}{K:Frag}
end
end Att
namespace L2
open PySem PySem.Spec PyProof.Rows
theorem ib:∀ {vs:LU}{ns:LI},IntsAre vs ns->bq (ns.map V.int) vs
 |_,_,.nil=>.nil
 |_,_,.cons n t h=>.cons ⟨t,rfl⟩ (ib h)
noncomputable def dN (s:Stmt):Arguments:=match s with
 |.FunctionDef _ a _ _ _ _ _ _ _ _=>a
 |_=>{ posonlyargs:=[],args:=[],vararg:=none,kwonlyargs:=[],kw_defaults:=[],kwarg:=none,defaults:=[] }
noncomputable def cf (s:Stmt):List Stmt:=match s with
 |.FunctionDef _ _ b _ _ _ _ _ _ _=>b
 |_=>[]
noncomputable def aJ (s:Stmt):Scope:=match s with
 |.FunctionDef _ _ _ _ _ _ sc _ _ _=>sc
 |_=>{ kind:=.function,names:=[],isGenerator:=false,isCoroutine:=false }
abbrev xZ:IA:=λ_ _ _ _ _ _=>False
abbrev E0:XK:=λ_ _ _=>False
def OX:A4 xZ X E0:=λ_ _ _ _ _ _ _ h=>h.elim
structure NJ (K:Frag)(x qual:Str)(st:Stmt)(f:Addr)(fd:FuncData):Prop where
 ex:∃(oc:Value)(od:Option Addr)(kV doc pm:Value)(an:Option Addr)(cW ct:Value)(lI:Array (Option Value)),
  fd=fnOf x qual (dN st) (cf st) (aJ st) .none kV doc pm an cW ct/\K.lookup f=some ⟨oc,od,.func fd,lI⟩/\PySem.W.codeIn K cW qual=true
 kp:PySem.W.keepIn K (.ref f)=true
section
variable {P:Program}{w:World}{K:Frag}{mg:SV}{base:Heap}
def NJ.ok {x qual:Str}{st:Stmt}{f:Addr}{fd:FuncData}{N ps:LS}{k:Nat}{sp:Sp}(F:NJ K x qual st f fd)(S:FnScope N ps (aJ st))(len:∀vs H Q E,sp vs H Q E->vs.length=ps.length)
  (G:∀(cW:Value)(A:Around)(outer:List Env)(s:Shared)(H:Hp)(vs:List V)(Q:VK)(E:XK),eV k (A.deeper (envOfC qual (aJ st) s.z f cW))->sp vs H Q E ->
   ∃t,tI (oh xZ P w K mg base N qual (aJ st) f cW A outer s H E).nox (cf st) t/\t { nx:=λ_ H'=>Q .non H',rt:=Q } (jX N vs) H):nW P w K mg base xZ (k+1) f fd ps sp:=by
 obtain⟨oc,od,kV,doc,pm,an,cW,ct,lI,rfl,T,M⟩:=F.ex;refine Fe T M S len λA outer s H vs Q E U O=>?_;obtain⟨t,h,q⟩:=G cW A outer s H vs Q E U O;exact⟨t,h.nox,q⟩
def NJ.binds {x qual:Str}{st:Stmt}{f:Addr}{fd:FuncData}{ps:LS}(F:NJ K x qual st f fd)
  (h:∀(kV doc pm:Value)(an:Option Addr)(cW ct:Value)(us:LU),us.length=ps.length->bindArgs (fnOf x qual (dN st) (cf st) (aJ st) .none kV doc pm an cW ct) ⟨us,[]⟩=pure (ps.zip us)):oZ K fd ps []:=by
 obtain⟨oc,od,kV,doc,pm,an,cW,ct,lI,rfl,M,G⟩:=F.ex;exact .all (h kV doc pm an cW ct)
def Mw {x qual:Str}{st:Stmt}{f:Addr}{oc:Value}{od an:Option Addr}{lI:Array (Option Value)}{kV doc pm cW ct:Value}(l:K.lookup f=some ⟨oc,od,.func (fnOf x qual (dN st) (cf st) (aJ st) .none kV doc pm an cW ct),lI⟩)
  (c:PySem.W.codeIn K cW qual=true) (k:PySem.W.keepIn K (.ref f)=true):NJ K x qual st f (fnOf x qual (dN st) (cf st) (aJ st) .none kV doc pm an cW ct):=⟨⟨oc,od,kV,doc,pm,an,cW,ct,lI,rfl,l,c⟩,k⟩
end
def aU (H H':Hp):Prop:=∀b o,H b=some o->H' b=some o
def aU.refl (H:Hp):aU H H:=λ_ _ h=>h
def aU.trans (a:aU H G)(b:aU G H2):aU H H2:=λc o h=>b c o (a c o h)
def aU.free (e:aU H H')(h:H' l=Option.none):H l=Option.none:=by
 cases q:H l with
 |none=>rfl
 |some o=>
  rw[e l o q]at h;cases h
def aU.seq {K:Frag}{H H':Hp}{a:Addr}{xs:List V}(e:aU H H')(h:gN K H a xs):gN K H' a xs:=by
 rcases h with (h|⟨o,h⟩)|h
 ·exact .inl (.inl (e _ _ h))
 ·exact .inl (.inr ⟨o,e _ _ h⟩)
 ·exact .inr h
section
variable {κ:Type}[DecidableEq κ]
noncomputable def lK (aK:List (κ×V))(k:κ):Option V:=(aK.find? λkv=>decide (kv.1=k)).map (·.2)
def mK (aK:List (κ×V))(k:κ)(v:V):List (κ×V) :=
 if(aK.any λkv=>decide (kv.1=k))=true then aK.map (λkv=>if kv.1=k then (kv.1,v)else kv)else aK++[(k,v)]
def mL {p:κ×V}{r:List (κ×V)}{k:κ}(e:p.1=k):lK (p::r) k=some p.2:=by simp[lK,find?_cons,e]
def mM {p:κ×V}{r:List (κ×V)}{k:κ}(e:¬p.1=k):lK (p::r) k=lK r k:=by simp[lK,find?_cons,e]
theorem ym (k:κ):∀aK:List (κ×V),(aK.any λkv=>decide (kv.1=k))=(lK aK k).isSome
 |[]=>rfl
 |p::r=>by
  rw[any_cons];by_cases e:p.1=k
  ·simp only[mL e,As e,Bool.true_or,Option.isSome_some]
  ·rw[mM e,Qn e,Bool.false_or];exact ym k r
def kn (aK:List (κ×V))(k:κ)(v:V):(mK aK k v).length<=aK.length+1:=by
 unfold mK;split
 ·rw[vI];omega
 ·rw[uZ,vE,length_nil];omega
def pU.isSome_eq (r:pU o u):o.isSome=u.isSome:=by
 cases o with
 |none=>cases u with
  |none=>rfl
  |some _=>exact(show False from r).elim
 |some _=>cases u with
  |none=>exact(show False from r).elim
  |some _=>rfl
def pU.getD (r:pU o u)(G:bf d d'):bf (o.getD d) (u.getD d'):=by
 cases o with
 |none=>cases u with
  |none=>exact G
  |some _=>exact(show False from r).elim
 |some _=>cases u with
  |none=>exact(show False from r).elim
  |some _=>exact r
def KV.val {aK:List (κ×V)}{vs:List (κ×Value)}(r:KV aK vs)(k:κ):pU (lK aK k) (valueAt vs k):=by
 unfold KV at r;induction r with
 |nil=>exact True.intro
 |@cons p q ps G h t O=>
  obtain⟨h1,h2⟩:=h;by_cases e:p.1=k
  ·have M:q.1=k:=h1.symm.trans e;have b:valueAt (q::G) k=some q.2:=by simp[valueAt,find?_cons,M]
   rw[mL e,b];exact h2
  ·have M:¬q.1=k:=λz=>e (h1.trans z);have b:valueAt (q::G) k=valueAt G k:=by simp[valueAt,find?_cons,M]
   rw[mM e,b];exact O
def KV.any (r:KV aK vs)(k:κ):(aK.any λkv=>decide (kv.1=k))=vs.any λkv=>decide (kv.1=k):=by
 unfold KV at r;induction r with
 |nil=>rfl
 |cons h t G=>rw[any_cons,any_cons,G,h.1]
def KV.repl (r:KV aK vs)(k:κ)(G:bf y u):
  KV (aK.map λkv=>if kv.1=k then (kv.1,y)else kv) (vs.map λkv=>if kv.1=k then (kv.1,u)else kv):=by
 unfold KV at r |-;induction r with
 |nil=>exact .nil
 |@cons p q ps O h t M=>
  rw[uY,uY];refine .cons ?_ M;obtain⟨h1,h2⟩:=h;by_cases e:p.1=k
  ·rw[if_pos e,if_pos (h1.symm.trans e)];exact⟨h1,G⟩
  ·rw[if_neg e,if_neg (λz=>e (h1.trans z))];exact⟨h1,h2⟩
def KV.put (r:KV aK vs)(k:κ)(G:bf y u):KV (mK aK k y) (stored vs k u):=by
 unfold mK stored;rw[r.any k];by_cases e:(vs.any λkv=>decide (kv.1=k))=true
 ·rw[if_pos e,if_pos e];exact r.repl k G
 ·rw[if_neg e,if_neg e];exact Paired.snoc r ⟨rfl,G⟩
def KV.length (r:KV aK vs):aK.length=vs.length:=Paired.length r
end
def yn (r:bf (kV k) u):(cy P w).is k u=true:=by
 cases k with
 |inl i=>obtain⟨t,e⟩:=(show ∃t,u=Value.int i t from r);subst e;exact yc P w i t
 |inr x=>obtain⟨t,e⟩:=(show ∃t,u=Value.str x t from r);subst e;exact ye P w x t
theorem ui:∀ {ks:List eK}{us:LU},bq (ks.map kV) us->ItemsAre (cy P w) ks us
 |[],_,r=>by rw[map_nil]at r;cases r;exact .nil
 |k::ks,_,r=>by
  rw[uY]at r;cases r with
  |cons h t=>exact .cons (yn h) (ui t)
abbrev KT (H:Hp):List (List eK×V)->List (List eK×Addr×Value)->Prop:=Paired λp q=>p.1=q.1/\H q.2.1=some (.tup (p.1.map kV))/\bf p.2 q.2.2
def KT.val {H:Hp}{aK:List (List eK×V)}{xs:List (List eK×Addr×Value)}(r:KT H aK xs)(k:List eK):pU (lK aK k) ((atKey xs k).map (·.2)):=by
 induction r with
 |nil=>exact True.intro
 |@cons p q ps G h t O=>
  obtain⟨h1,_,h2⟩:=h;by_cases e:p.1=k
  ·have M:q.1=k:=h1.symm.trans e;have b:atKey (q::G) k=some q.2:=by simp[atKey,find?_cons,M]
   rw[mL e,b];exact h2
  ·have M:¬q.1=k:=λz=>e (h1.trans z);have b:atKey (q::G) k=atKey G k:=by simp[atKey,find?_cons,M]
   rw[mM e,b];exact O
def KT.repl (r:KT H aK xs)(k:List eK)(G:bf y u):
  KT H (aK.map λkv=>if kv.1=k then (kv.1,y)else kv) (xs.map (putAt k u)):=by
 induction r with
 |nil=>exact .nil
 |@cons p q ps O h t M=>
  rw[uY,uY];refine .cons ?_ M;obtain⟨h1,h2,h3⟩:=h;unfold putAt;by_cases e:p.1=k
  ·rw[if_pos e,if_pos (h1.symm.trans e)];exact⟨h1,h2,G⟩
  ·rw[if_neg e,if_neg (λz=>e (h1.trans z))];exact⟨h1,h2,h3⟩
def KT.put (r:KT H aK xs)(k:List eK)(hb:H b=some (.tup (k.map kV)))(G:bf y u):
  KT H (mK aK k y) (storedH xs k b u):=by
 have e:(aK.any λkv=>decide (kv.1=k))=(atKey xs k).isSome:=by
  rw[ym,(r.val k).isSome_eq,isSome_map]
 unfold mK storedH;rw[e];by_cases q:(atKey xs k).isSome=true
 ·rw[if_pos q,if_pos q];exact r.repl k G
 ·rw[if_neg q,if_neg q];exact Paired.snoc r ⟨rfl,hb,G⟩
def KT.keeps (r:KT H aK xs)(G:∀b ys,H b=some (.tup ys)->H' b=some (.tup ys)):KT H' aK xs :=
 Paired.mapP r λ_ _ z=>⟨z.1,G _ _ z.2.1,z.2.2⟩
section
variable {P:Program}{w:World}{H:Hp}{h:Heap}{a:Addr}
def Lb (ok:lJ P w H h)(e:Rd H a u):bI P w H h a u:=e.ok ok
def A9 (ok:lJ P w H h)(e:H a=some (.dK aK ob)):h.get? a=some ob:=And.left (show bI P w H h a (.dK aK ob)from ok a _ e)
def BM (ok:lJ P w H h)(e:Rd H a (.dK aK ob)):aK.length<=sizeLine/\(a == sysModules)=false/\∃vs,KV aK vs/\h.DictOf (cy P w) a vs :=
 And.right (show bI P w H h a (.dK aK ob)from Lb ok e)
def qD (ok:lJ P w H h)(e:H a=some (.dK aK ob)):aK.length<=sizeLine/\(a == sysModules)=false/\∃vs,KV aK vs/\h.DictOf (cy P w) a vs:=BM ok (.inl e)
def wI (ok:lJ P w H h)(e:H a=some (.tup (ks.map kV))):(tupleKind (cy P w)).is h ks a:=by
 obtain⟨_,its,r,o,h1,h2,n,h3⟩:=(show bI P w H h a (.tup (ks.map kV))from ok a _ e);exact⟨o,its.toArray,n,h1,h2,h3,by simpa using ui r⟩
def BN (ok:lJ P w H h)(e:Rd H a (.dT aK)):aK.length<=sizeLine/\(a == sysModules)=false /\
  ∃xs,KT H aK xs/\h.DictOfH (tupleKind (cy P w)) a xs:=by
 obtain⟨z,y,xs,r,o,es,G,h1,h2,h3,h4,h5⟩:=(show bI P w H h a (.dT aK)from Lb ok e);refine⟨z,y,xs,r,o,es,G,h1,h2,h3,h4,λx hx=>?_,h5⟩;have all:∀ {l:List (List eK×V)}{m:List (List eK×Addr×Value)},KT H l m->∀x∈m,(tupleKind (cy P w)).is h x.1 x.2.1:=by
  intro l m q;induction q with
  |nil=>intro x hx;exact nomatch hx
  |@cons p q ps O hq t M=>
   intro x hx;rcases vP hx with e|hx
   ·subst e;exact wI ok (by rw[<-hq.1];exact hq.2.1)
   ·exact M x hx
 exact all r x hx
def OY (ok:lJ P w H h)(e:H a=some (.dT aK)):aK.length<=sizeLine/\(a == sysModules)=false /\
  ∃xs,KT H aK xs/\h.DictOfH (tupleKind (cy P w)) a xs:=BN ok (.inl e)
end
def DE (H:Hp)(a:Addr)(y:V)(r:Option V):Prop :=
 (∃aK k ob,Rd H a (.dK aK ob)/\y=kV k/\r=lK aK k)\/∃aK k b,Rd H a (.dT aK)/\y=.ref b/\H b=some (.tup (k.map kV))/\r=lK aK k
def OZ (H:Hp)(a:Addr)(y v:V)(Q:Hp->Prop):Prop :=
 (∃aK k ob,H a=some (.dK aK ob)/\y=kV k/\aK.length<sizeLine/\∀G,Q (upd H a (.dK (mK aK k v) G))) \/
 ∃aK k b,H a=some (.dT aK)/\y=.ref b/\H b=some (.tup (k.map kV))/\aK.length<sizeLine/\Q (upd H a (.dT (mK aK k v)))
def DE.t (e:H a=some (.dT aK))(G:H b=some (.tup (k.map kV))):DE H a (.ref b) (lK aK k):=.inr ⟨aK,k,b,.inl e,rfl,G,rfl⟩
section
variable {X:Cx}{ah:AO}{σ:St}{H:Hp}{s:Shared}{a:Addr}{y v:V}{u r:Value}{o:Option V}{A:Around}{E:QV}
def Inv.big (I:Inv X ah σ H s):sysModules<s.z:=by
 have h:mainGlobals<s.z:=(I.mod.glob.keeps I.bk).lt;exact Nat.lt_trans (by decide) h
def RO (hu:A.units+1<cLine)(I:Inv X ah σ H s)(g:DE H a y o)(O:bf y u)(h:∀s',Inv X ah σ H s'->Q (.bool o.isSome) s'):
  wpAny (model X.prog X.w) A (compareOp .In u (.ref a)) Q E s:=by
 rcases g with⟨aK,k,ob,e,M,l⟩|⟨aK,k,b,e,M,T,l⟩
 ·subst M;obtain⟨z,hd,vs,G,dd⟩:=BM I.hok e;refine wpAny_in_of (yn O) hd dd.mapOf ?_;rw[<-(G.val k).isSome_eq,<-l];exact h _ (I.tok _)
 ·subst M;cases (show u=Value.ref b from O)
  obtain⟨z,hd,xs,G,dd⟩:=BN I.hok e;refine wpAny_in_heap (tupleKind_room_in1 hu) (wI I.hok T) hd dd ?_;have q:=(G.val k).isSome_eq;rw[isSome_map]at q;rw[<-q,<-l];exact h _ (I.tok _)
def wJ (I:Inv X ah σ H s)(G:O0 (H a))(hs:Heap.SameBut a s.heap h')(he:∃q,h'.get? a=some q)(new:bI X.prog X.w (upd H a ob) h' a ob):
  Inv X ah σ (upd H a ob) { s with heap:=h',toks:=t' } :=
 I.write (x:=a) (e:=a) G (.inl rfl) (λb q hb z=>(hs.2 b hb).trans z) he new
def Fq (z:aK.length<=sizeLine)(hd:(a == sysModules)=false)(G:KV aK vs)(dd:h'.DictOf (cy P w) a vs)(M:h'.get? a=some ob):
  bI P w H' h' a (.dK aK ob):=⟨M,z,hd,vs,G,dd⟩
def DF (hu:A.units+1<cLine)(I:Inv X ah σ H s)(g:OZ H a y v R)(U:bf y u)(d:bf v r)(h:∀H' s',R H'->Inv X ah σ H' s'->Q () s'):
  wpAny (model X.prog X.w) A (setItem (.ref a) u r) Q E s:=by
 rcases g with⟨aK,k,ob,e,O,l,T⟩|⟨aK,k,b,e,O,f,l,T⟩
 ·subst O;obtain⟨z,hd,vs,G,dd⟩:=qD I.hok e;have hz:vs.length<=sizeLine:=by rw[<-G.length];exact z
  have hl:(mK aK k v).length<=sizeLine:=by have:=kn aK k v;omega
  refine wpAny_setItem_pairs (hsz:=hz) (yn U) dd λh' M hs=>?_;obtain⟨q,hq⟩:∃q,h'.get? a=some q:=let ⟨q,_,_,hq,_⟩:=M;⟨q,hq⟩;exact h _ _ (T q) (wJ I (by rw[e];exact True.intro) hs ⟨q,hq⟩ (Fq hl hd (G.put k d) M hq))
 ·subst O;cases (show u=Value.ref b from U)
  obtain⟨z,hd,xs,G,dd⟩:=OY I.hok e;have hz:xs.length<=sizeLine:=by rw[<-Paired.length G];exact z
  have hl:(mK aK k v).length<=sizeLine:=by have:=kn aK k v;omega
  refine wpAny_setItem_heap (hsz:=hz) (tupleKind_room_in1 hu) (wI I.hok f) dd λh' M hs=>h _ _ T ?_;obtain⟨q,es,j,hq,h2,h3,h4,_,h5⟩:=M;refine wJ I (by rw[e];exact True.intro) hs ⟨q,hq⟩ ⟨hl,hd,_,(G.put k f d).keeps λc ys i=>?_,q,es,j,hq,h2,h3,h4,h5⟩;rw[aG (Oz i e (λz=>nomatch z))];exact i
end
def RP (ty G:TE):TE:=λσ H Q=>ty σ H λy M=>G σ M λx H2=>∃a o,x=.ref a/\DE H2 a y o/\Q (.bl o.isSome) H2
def BO (G ty M:TE):TS:=λD σ H=>M σ H λv O=>G σ O λx H2=>ty σ H2 λy T=>∃a,x=.ref a/\OZ T a y v (D.nx σ)
section
variable {X:Cx}{o i e value:Expr}{pos HV NH:Pos}{td ty tv:TE}
def Mx (hu:X.A.units+1<cLine)(hi:PE X i ty)(G:PE X o td):PC X .In i o (RP ty td):=by
 intro ah s σ H Q I h;refine cA (hi ah s σ H _ I h) λiv s1 ⟨y,M,O,T,U⟩=>cA (G ah s1 σ M _ O U) λu s2 ⟨x,H2,b,c,a,d,ex,g,f⟩=>?_;subst ex;obtain rfl:u=Value.ref a:=c;exact RO hu b g T λk j=>⟨.bl d.isSome,H2,j,rfl,f⟩
def wK (hu:X.A.units+1<cLine)(G:PE X o td)(hi:PE X i ty)(hv:PE X value tv)(hs:swapsWith value (some (.Subscript o i HV)) pos.line X.env=pure false):
  PS X (.Assign [.Subscript o i HV] value pos) (BO td ty tv):=by
 intro ah s σ H D I h;refine wpAny_Assign_Subscript (cA (hv ah s σ H _ I h) λr s1 ⟨v,M,O,T,U⟩=>cA (G ah s1 σ M _ O U) λu s2 ⟨x,H2,b,c,d⟩=>cA (hi ah s2 σ H2 _ b d) λiv n ⟨y,p,f,j,a,ex,g⟩=>?_) hs;subst ex;obtain rfl:u=Value.ref a:=c;exact DF hu f g j T λk q l m=>⟨σ,k,m,l⟩
end
def yo (h:Heap)(hb:sysModules<h.objs.size):bI P w H (h.push { cls:=.type "dict",data:=.dict #[] }) h.objs.size (.dK [] { cls:=.type "dict",data:=.dict #[] }) :=
 ⟨vY _ rfl,uN _,beq_eq_false_iff_ne.mpr (Ne.symm (vS hb)),[],.nil,Heap.DictOf.new h⟩
def Fs (h:Heap)(hb:sysModules<h.objs.size):bI P w H (h.push { cls:=.type "dict",data:=.dict #[] }) h.objs.size (.dT []) :=
 ⟨uN _,beq_eq_false_iff_ne.mpr (Ne.symm (vS hb)),[],.nil,_,#[],0,vY _ rfl,⟨rfl,rfl,rfl⟩,rfl,rfl,nodup_nil⟩
def Ft:TE:=λ_ H Q=>∀p ob,H p=none->Q (.ref p) (upd H p (.dK [] ob))
def Fu:TE:=λ_ H Q=>∀p,H p=none->Q (.ref p) (upd H p (.dT []))
section
variable {X:Cx}{pos:Pos}
def Fv:PE X (.Dict [] [] pos) Ft:=λah s σ H Q I h=>
 wpAny_Dict_empty ⟨.ref s.z,_,I.laid (a:=s.z) (o:=.dK [] { cls:=.type "dict",data:=.dict #[] }) (t':=s.toks) (λ_ _ q=>vZ _ q) (vT _) (yo s.heap I.big),rfl,h _ _ (I.hok.fresh (vT _))⟩
def Fw:PE X (.Dict [] [] pos) Fu:=λah s σ H Q I h=>
 wpAny_Dict_empty ⟨.ref s.z,_,I.laid (a:=s.z) (o:=.dT []) (t':=s.toks) (λ_ _ q=>vZ _ q) (vT _) (Fs s.heap I.big),rfl,h _ (I.hok.fresh (vT _))⟩
end
structure M1 (X:Cx)(o:Expr)(m:Str)(dL:Pos)(e:Expr)(cB:Pos):Prop where
 base:attributeBase o m X.env (eval o X.env)=eval o X.env
 few:((backTo cB (starEach [e] X.env)).all (λx=>!x.1) && (backToKw cB (keywordEach [] X.env)).all (λx=>x.1.isSome)
  && decide (([e]:List Expr).length+([]:List Keyword).length+(if([]:List Keyword).isEmpty then 0 else 1)<30))=true
 line:(dL.endLine == cB.line)=true
 trees:backTo cB (starEach [e] X.env)=[(false,eval e X.env)]
def Uc (H:Hp)(a:Addr):Prop:=(∃aK ob,Rd H a (.dK aK ob))\/∃aK,Rd H a (.dT aK)
def My (I:Inv X ah σ H s)(d:Uc H a):
  s.TypeIs (.ref a) "dict"/\(∀b,Value.ref a=.ref b->∃ob,s.heap.get? b=some ob/\ob.dict=none)/\(a == sysModules)=false:=by
 rcases d with⟨aK,G,e⟩|⟨aK,e⟩
 ·obtain⟨_,hd,vs,_,dd⟩:=BM I.hok e;refine⟨dd.typeIs,λb q=>?_,hd⟩;cases q
  obtain⟨ob,_,_,h1,h2,_⟩:=dd;exact⟨ob,h1,h2.2.1⟩
 ·obtain⟨_,hd,xs,_,dd⟩:=BN I.hok e;refine⟨dd.typeIs,λb q=>?_,hd⟩;cases q
  obtain⟨ob,_,_,h1,h2,_⟩:=dd;exact⟨ob,h1,h2.2.1⟩
section
variable {X:Cx}{ah:AO}{σ:St}{H:Hp}{s:Shared}{a:Addr}{y d:V}{u r:Value}{o:Option V}{A:Around}{E:QV}
def Mz (hu:A.units+1<cLine)(I:Inv X ah σ H s)(g:DE H a y o)(O:bf y u)(h:∀T s',Inv X ah σ H s'->bf (o.getD .non) T->Q T s'):
  wpAny (model X.prog X.w) A (call (.builtin "dict.get") [.ref a,u]) Q E s:=by
 rcases g with⟨aK,k,ob,e,M,l⟩|⟨aK,k,b,e,M,U,l⟩
 ·subst M;obtain⟨z,hd,vs,G,dd⟩:=BM I.hok e;refine call_meetsIn slot_dict_get dd.typeIs entry_dict_get (PySem.F.args_dict_get_2 _ _) (meets_dict_get (cy X.prog X.w) a (yn O) hd) ⟨_,dd.mapOf,h _ _ (I.tok _) ?_⟩;rw[l];exact(G.val k).getD rfl
 ·subst M;cases (show u=Value.ref b from O)
  obtain⟨z,hd,xs,G,dd⟩:=BN I.hok e;refine call_meetsIn slot_dict_get dd.typeIs entry_dict_get (PySem.F.args_dict_get_2 _ _) (meetsH_dict_get (tupleKind (cy X.prog X.w)) a b hd) ⟨tupleKind_room_in1 hu,k,xs,wI I.hok U,dd,h _ _ (I.tok _) ?_⟩;rw[l];exact(G.val k).getD rfl
end
def M0 (M ty:TE):TE:=λσ H Q=>M σ H λx G=>∃a,x=.ref a/\Uc G a/\ty σ G λy H2=>∃o,DE H2 a y o/\Q (o.getD .non) H2
section
variable {X:Cx}{o e f:Expr}{dL cB:Pos}{td ty tx:TE}
def Fx (hu:X.A.units+1<cLine)(O:PE X o td)(he:PE X e ty)(m:M1 X o "get" dL e cB):PE X (.Call (.Attribute o "get" dL) [e] [] cB) (M0 td ty):=by
 intro ah s σ H Q I h;refine wpAny_Call_method m.base m.few m.line plainAttrs_dict slot_dict_get PySem.F.type_dict_get (cA (O ah s σ H _ I h) λu s1 ⟨x,T,M,U,a,ex,d,b⟩=>?_);subst ex;obtain rfl:u=Value.ref a:=U;obtain⟨c,i,_⟩:=My M d;refine⟨c,i,?_⟩;rw[m.trees];refine Calls.callWith_builtin rfl (Calls.evalArgs_plain (Calls.spliced_cons (cA (he ah s1 σ T _ M b) λiv s2 ⟨y,H2,j,k,p,g,l⟩=>Calls.spliced_nil ?_)));exact Mz hu j g k λq r n G=>⟨_,H2,n,G,l⟩
end
end L2
namespace DL
open PySem L2
set_option linter.all false
abbrev St:=L2.St
inductive D where
 |non|bl (b:Bool)|int (i:Int)|str (x:Str)|ty (n:String)|tup (ds:List D)|lst (ds:List D)
  |dk (ks:List eK) (vs:List D)|dt (ks:List (List eK)) (vs:List D)
abbrev LD:=List D
abbrev LV:=List V
abbrev LK:=List eK
abbrev OB:=Option (D×Bool)
mutual
inductive Is (K:Frag)(H:Hp):V->D->Prop where
 |non:Is K H .non .non
 |bl (b:Bool):Is K H (.bl b) (.bl b)
 |int (i:Int):Is K H (.int i) (.int i)
 |str (x:Str):Is K H (.str x) (.str x)
 |ty (n:String):Is K H (.ty n) (.ty n)
 |tup {a:Addr}{vs:List V}{ds:List D}(h:iP K H a vs) (hs:IsL K H vs ds):Is K H (.ref a) (.tup ds)
 |lst {a:Addr}{vs:List V}{ds:List D}(h:gN K H a vs) (hs:IsL K H vs ds):Is K H (.ref a) (.lst ds)
 |dk {a:Addr}{ks:List eK}{vs:List V}{ds:List D}{ob:Obj}(h:H a=some (.dK (ks.zip vs) ob)) (hl:ks.length=vs.length) (hs:IsL K H vs ds):Is K H (.ref a) (.dk ks ds)
 |dt {a:Addr}{ks:List (List eK)}{vs:List V}{ds:List D}(h:H a=some (.dT (ks.zip vs))) (hl:ks.length=vs.length) (hs:IsL K H vs ds):Is K H (.ref a) (.dt ks ds)
inductive IsL (K:Frag)(H:Hp):List V->List D->Prop where
 |nil:IsL K H [] []
 |cons {v:V}{d:D}{vs:List V}{ds:List D}(h:Is K H v d) (hs:IsL K H vs ds):IsL K H (v::vs) (d::ds)
end
mutual
def b8:D->Bool
 |.lst _=>false
 |.dk _ _=>false
 |.dt _ _=>false
 |.tup ds=>bB ds
 |_=>true
def bB:LD->Bool
 |[]=>true
 |d::ds=>b8 d && bB ds
end
@[simp] def NY:b8 .non=true:=by simp only[b8]
@[simp] def Pa (b:Bool):b8 (.bl b)=true:=by simp only[b8]
@[simp] def NZ (i:Int):b8 (.int i)=true:=by simp only[b8]
@[simp] def Oa (x:Str):b8 (.str x)=true:=by simp only[b8]
@[simp] def Pc (x:String):b8 (.ty x)=true:=by simp only[b8]
@[simp] def Ob (ds:LD):b8 (.tup ds)=bB ds:=by rw[b8]
@[simp] def Oc (ds:LD):b8 (.lst ds)=false:=by rw[b8]
@[simp] def Pd (ks:LK)(ds:LD):b8 (.dk ks ds)=false:=by rw[b8]
@[simp] def Pe (ks:List LK)(ds:LD):b8 (.dt ks ds)=false:=by rw[b8]
@[simp] def M2:bB []=true:=by rw[bB]
@[simp] def Lc (d:D)(ds:LD):bB (d::ds)=(b8 d && bB ds):=by rw[bB]
section
variable {K:Frag}{H H':Hp}
mutual
theorem Is.keep (G:∀a vs,iP K H a vs->iP K H' a vs)(M:∀a vs,gN K H a vs->gN K H' a vs)(O:∀a aK ob,H a=some (.dK aK ob)->H' a=some (.dK aK ob))(T:∀a aK,H a=some (.dT aK)->H' a=some (.dT aK)):∀ {v:V}{d:D},Is K H v d->Is K H' v d
 |_,_,.non=>.non
 |_,_,.bl b=>.bl b
 |_,_,.int i=>.int i
 |_,_,.str x=>.str x
 |_,_,.ty x=>.ty x
 |_,_,.tup h hs=>.tup (G _ _ h) (IsL.keep G M O T hs)
 |_,_,.lst h hs=>.lst (M _ _ h) (IsL.keep G M O T hs)
 |_,_,.dk h hl hs=>.dk (O _ _ _ h) hl (IsL.keep G M O T hs)
 |_,_,.dt h hl hs=>.dt (T _ _ h) hl (IsL.keep G M O T hs)
theorem IsL.keep (G:∀a vs,iP K H a vs->iP K H' a vs)(M:∀a vs,gN K H a vs->gN K H' a vs)(O:∀a aK ob,H a=some (.dK aK ob)->H' a=some (.dK aK ob))(T:∀a aK,H a=some (.dT aK)->H' a=some (.dT aK)):∀ {vs:LV}{ds:LD},IsL K H vs ds->IsL K H' vs ds
 |_,_,.nil=>.nil
 |_,_,.cons h hs=>.cons (Is.keep G M O T h) (IsL.keep G M O T hs)
end
mutual
theorem Is.keepT (G:∀a vs,iP K H a vs->iP K H' a vs):∀ {v:V}{d:D},Is K H v d->b8 d=true->Is K H' v d
 |_,_,.non,_=>.non
 |_,_,.bl b,_=>.bl b
 |_,_,.int i,_=>.int i
 |_,_,.str x,_=>.str x
 |_,_,.ty x,_=>.ty x
 |_,_,.tup h hs,n=>.tup (G _ _ h) (IsL.keepT G hs (by simpa using n))
 |_,_,.lst h hs,n=>by simp at n
 |_,_,.dk h hl hs,n=>by simp at n
 |_,_,.dt h hl hs,n=>by simp at n
theorem IsL.keepT (G:∀a vs,iP K H a vs->iP K H' a vs):∀ {vs:LV}{ds:LD},IsL K H vs ds->bB ds=true->IsL K H' vs ds
 |_,_,.nil,_=>.nil
 |_,_,.cons h hs,n=>by
  simp at n;exact .cons (Is.keepT G h n.1) (IsL.keepT G hs n.2)
end
def b7 (e:aU H H')(h:iP K H a xs):iP K H' a xs:=by
 rcases h with (h|⟨o,h⟩)|h
 ·exact .inl (.inl (e _ _ h))
 ·exact .inl (.inr ⟨o,e _ _ h⟩)
 ·exact .inr h
def Is.mono (h:Is K H v d)(e:aU H H'):Is K H' v d:=h.keep (λ_ _=>b7 e) (λ_ _=>e.seq) (λ_ _ _ q=>e _ _ q) λ_ _ q=>e _ _ q
def IsL.mono (h:IsL K H v d)(e:aU H H'):IsL K H' v d:=h.keep (λ_ _=>b7 e) (λ_ _=>e.seq) (λ_ _ _ q=>e _ _ q) λ_ _ q=>e _ _ q
theorem IsL.length:∀ {vs:LV}{ds:LD},IsL K H vs ds->vs.length=ds.length
 |_,_,.nil=>rfl
 |_,_,.cons _ t=>congrArg (· + 1) t.length
theorem IsL.get:∀ {vs:LV}{ds:LD}{i:Nat}{d:D},IsL K H vs ds->ds[i]? = some d->∃v,vs[i]? = some v/\Is K H v d
 |_,_,_,_,.nil,e=>by simp at e
 |_,_,0,_,.cons h _,e=>by simp at e;subst e;exact⟨_,rfl,h⟩
 |_,_,i+1,d,.cons _ t,e=>by
  obtain⟨u,h1,h2⟩:=t.get (i:=i) (d:=d) (by simpa using e);exact⟨u,by simpa using h1,h2⟩
theorem IsL.append:∀ {vs G:LV}{ds es:LD},IsL K H vs ds->IsL K H G es->IsL K H (vs++G) (ds++es)
 |_,_,_,_,.nil,s=>s
 |_,_,_,_,.cons r t,s=>.cons r (t.append s)
theorem IsL.take:∀ {vs:LV}{ds:LD}(n:Nat),IsL K H vs ds->IsL K H (vs.take n) (ds.take n)
 |_,_,0,_=>by simpa using IsL.nil
 |_,_,_+1,.nil=>.nil
 |_,_,n+1,.cons r t=>.cons r (t.take n)
theorem IsL.drop:∀ {vs:LV}{ds:LD}(n:Nat),IsL K H vs ds->IsL K H (vs.drop n) (ds.drop n)
 |_,_,0,r=>r
 |_,_,_+1,.nil=>.nil
 |_,_,n+1,.cons _ t=>t.drop n
theorem IsL.set (h:Is K H v d):∀ {vs:LV}{ds:LD}(i:Nat),IsL K H vs ds->IsL K H (vs.set i v) (ds.set i d)
 |_,_,_,.nil=>.nil
 |_,_,0,.cons _ t=>.cons h t
 |_,_,i+1,.cons r t=>.cons r (IsL.set h i t)
def IsL.flat {vs:LV}{ns:LI}(h:vs=ns.map V.int):IsL K H vs (ns.map D.int):=by
 subst h;induction ns with
 |nil=>exact .nil
 |cons n ns G=>exact .cons (.int n) G
end
structure Ext (B N H H':Hp):Prop where
 hh:aU H H'
 bn:aU B N
 nh:aU N H'
 new:∀a o,N a=some o->B a=some o\/H a=none
def Ext.refl (h:aU B H):Ext B B H H:=⟨.refl _,.refl _,h,λ_ _ e=>.inl e⟩
def Ext.trans (x:Ext B N H G)(y:Ext N N2 G H2):Ext B N2 H H2 :=
 ⟨x.hh.trans y.hh,x.bn.trans y.bn,y.nh,λa o e=>(y.new a o e).elim (λq=>x.new a o q) λq=>.inr (x.hh.free q)⟩
def Ext.laid (h:aU B H)(hp:H p=none):Ext B (upd B p o) H (upd H p o):=by
 have G:B p=none:=h.free hp;refine⟨λa u e=>?_,λa u e=>?_,λa u e=>?_,λa u e=>?_⟩
 ·rw[aG (λq=>by subst q;rw[hp]at e;cases e)];exact e
 ·rw[aG (λq=>by subst q;rw[G]at e;cases e)];exact e
 ·by_cases q:a=p
  ·subst q;rw[aB]at e |-;exact e
  ·rw[aG q]at e |-;exact h _ _ e
 ·by_cases q:a=p
  ·subst q;exact .inr hp
  ·rw[aG q]at e;exact .inl e
def Ext.grow (h:aU B H)(hh:aU H H'):Ext B B H H':=⟨hh,.refl _,h.trans hh,λ_ _ e=>.inl e⟩
abbrev Env:=List OB
abbrev FE:=Env->OB
abbrev FA:=Env->Option LD
abbrev FT:=Env->Option Bool
def Od (K:Frag)(H N:Hp)(v:V):D->Prop
 |.tup ds=>∃(a:Addr)(vs:LV),v=.ref a/\iP K N a vs/\IsL K N vs ds/\∀(i:Nat)(es:LD),ds[i]? = some (.lst es)->∃(b:Addr)(us:LV),vs[i]? = some (.ref b)/\H b=none/\N b=some (.lst us)/\IsL K N us es
 |d=>∃(a:Addr)(vs:LV)(ds:LD),v=.ref a/\d=.lst ds/\H a=none/\N a=some (.lst vs)/\IsL K N vs ds
def Od.back (h:Od K H' N v d)(e:aU H H'):Od K H N v d:=by
 cases d
 case tup=>exact let ⟨a,vs,q,y,z,r⟩:=h;⟨a,vs,q,y,z,λi es g=>let ⟨b,us,g1,G,M⟩:=r i es g;⟨b,us,g1,e.free G,M⟩⟩
 all_goals exact let ⟨a,vs,ds,q,y,z,r⟩:=h;⟨a,vs,ds,q,y,e.free z,r⟩
noncomputable def mN:LS:=["in_order","has_seal","is_first_death","bases_by"]
noncomputable def qE (x:Str):Str:=x ++ ".<locals>." ++ "<lambda>"
def Tb (K:Frag)(B:Hp):Prop:=∀x∈mN,∀c P,PySem.W.tabIn K x=some (c,P)->B P=some (.tbl (qE x))
def Tb.mono (h:Tb K B)(e:aU B G):Tb K G:=λx hx c P q=>e _ _ (h x hx c P q)
structure ga (K:Frag)(B:Hp)(σ:St)(ρ:Env):Prop where
 tb:Tb K B
 at':∀(i:Nat)(d:D)(b:Bool),ρ[i]? = some (some (d,b))->∃v,σ[i]? = some (some v)/\Is K B v d
def ga.mono (h:ga K B σ ρ)(e:aU B G):ga K G σ ρ:=⟨h.tb.mono e,λi d b q=>let ⟨v,h1,h2⟩:=h.at' i d b q;⟨v,h1,h2.mono e⟩⟩
def Fin (K:Frag)(B H:Hp)(d:D)(b:Bool)(Q:VK):Prop:=∀(v:V)(H' N:Hp),Ext B N H H'->Is K N v d->(b=true->Od K H N v d)->Q v H'
def tD (K:Frag)(f:FE):TE:=λσ H Q=>∃(B:Hp)(ρ:Env)(d:D)(b:Bool),aU B H/\ga K B σ ρ/\f ρ=some (d,b)/\Fin K B H d b Q
def BP (K:Frag)(f:FT):TT:=λσ H Q=>∃(B:Hp)(ρ:Env)(c:Bool),aU B H/\ga K B σ ρ/\f ρ=some c/\∀H',aU H H'->Q c H'
def Oe (K:Frag)(f:FA):TA:=λσ H Q=>∃(B:Hp)(ρ:Env)(ds:LD),aU B H/\ga K B σ ρ/\f ρ=some ds/\∀(vs:LV)(H' N:Hp),Ext B N H H'->IsL K N vs ds->Q vs H'
def rD (K:Frag)(op:D->D->OB):R2:=λx y H Q=>∃(B:Hp)(dx G d:D)(b:Bool),aU B H/\Is K B x dx/\Is K B y G/\op dx G=some (d,b)/\Fin K B H d b Q
def RQ (K:Frag)(op:D->OB):V->Hp->VK->Prop:=λx H Q=>∃(B:Hp)(dx d:D)(b:Bool),aU B H/\Is K B x dx/\op dx=some (d,b)/\Fin K B H d b Q
def BQ (K:Frag)(op:LD->OB):LV->Hp->VK->Prop:=λxs H Q=>∃(B:Hp)(ds:LD)(d:D)(b:Bool),aU B H/\IsL K B xs ds/\op ds=some (d,b)/\Fin K B H d b Q
def Fin.one (h:Fin K B H d false Q)(s:aU B H)(i:Is K B v d):Q v H:=h v H B (.refl s) i (by simp)
def Fin.into (h:Fin K B H d b Q)(x:Ext B N H M):Fin K N M d b Q:=λv H' N' y i G=>h v H' N' (x.trans y) i λe=>(G e).back x.hh
@[simp] noncomputable def fC (d:D):FE:=λ_=>some (d,false)
@[simp] noncomputable def am (i:Nat):FE:=λρ=>match ρ[i]? with|some (some (d,_))=>some (d,false)|_=>none
@[simp] noncomputable def f2 (op:D->D->OB)(fa G:FE):FE:=λρ=>(fa ρ).bind λx=>(G ρ).bind λy=>op x.1 y.1
@[simp] noncomputable def f1 (op:D->OB)(fa:FE):FE:=λρ=>(fa ρ).bind λx=>op x.1
@[simp] noncomputable def aj:FA:=λ_=>some []
@[simp] noncomputable def ag (fa:FE)(G:FA):FA:=λρ=>(fa ρ).bind λx=>(G ρ).bind λxs=>some (x.1::xs)
@[simp] noncomputable def fA (op:LD->OB)(fa:FA):FE:=λρ=>(fa ρ).bind op
def M3 (h:tD K (am i) σ H Q):∃v,σ[i]? = some (some v)/\Q v H:=by
 obtain⟨B,ρ,d,b,s,r,e,q⟩:=h;unfold am at e;split at e
 ·rename_i d' M G;cases e
  obtain⟨v,h1,h2⟩:=r.at' i _ _ G;exact⟨v,h1,q.one s h2⟩
 ·cases e
def IN (h:tD K (f2 op fa fb) σ H Q):tD K fa σ H λx O=>tD K fb σ O λy H2=>rD K op x y H2 Q:=by
 obtain⟨B,ρ,d,b,s,r,e,q⟩:=h;obtain⟨x,ex,e⟩:=oX e;obtain⟨y,T,e⟩:=oX e;refine⟨B,ρ,x.1,x.2,s,r,ex,λv O N G i1 _=>⟨N,ρ,y.1,y.2,G.nh,r.mono G.bn,T,λU H2 N2 M i2 _=>⟨N2,x.1,y.1,d,b,M.nh,i1.mono M.bn,i2,e,?_⟩⟩⟩;exact q.into (G.trans M)
def RS (h:tD K (f1 op fa) σ H Q):tD K fa σ H λx G=>RQ K op x G Q:=by
 obtain⟨B,ρ,d,b,s,r,e,q⟩:=h;obtain⟨x,ex,e⟩:=oX e;exact⟨B,ρ,x.1,x.2,s,r,ex,λv G N M i1 _=>⟨N,x.1,d,b,M.nh,i1,e,q.into M⟩⟩
def IP (h:tD K (fA op fa) σ H Q):Oe K fa σ H λxs G=>BQ K op xs G Q:=by
 obtain⟨B,ρ,d,b,s,r,e,q⟩:=h;obtain⟨x,ex,e⟩:=oX e;exact⟨B,ρ,x,s,r,ex,λv G N M i1=>⟨N,x,d,b,M.nh,i1,e,q.into M⟩⟩
def IQ (h:Oe K aj σ H Q):Q [] H:=by
 obtain⟨B,ρ,ds,s,r,e,q⟩:=h;cases e
 exact q [] H B (.refl s) .nil
def Fy (h:Oe K (ag fa U) σ H Q):tD K fa σ H λx M=>Oe K U σ M λxs H2=>Q (x::xs) H2:=by
 obtain⟨B,ρ,ds,s,r,e,q⟩:=h;obtain⟨x,ex,e⟩:=oX e;obtain⟨y,T,e⟩:=oX e;cases e
 exact⟨B,ρ,x.1,x.2,s,r,ex,λv M N G i1 _=>⟨N,ρ,y,G.nh,r.mono G.bn,T,λvs H2 N2 O i2=>q _ H2 N2 (G.trans O) (.cons (i1.mono O.bn) i2)⟩⟩
@[simp] noncomputable def aV (f:FE):FT:=λρ=>match f ρ with|some (.bl c,_)=>some c|_=>none
@[simp] noncomputable def fN (f g:FT):FT:=λρ=>match f ρ with|some true=>g ρ|some false=>some false|none=>none
@[simp] noncomputable def fO (f g:FT):FT:=λρ=>match f ρ with|some true=>some true|some false=>g ρ|none=>none
@[simp] noncomputable def cm (f:FT):FT:=λρ=>(f ρ).map (!·)
open Classical in
noncomputable def dP (H:Hp)(P:Addr->Prop):Hp:=λa=>if P a then none else H a
def cP (h:¬P a):dP H P a=H a:=by unfold dP;rw[if_neg h]
def AA (h:P a):dP H P a=none:=by unfold dP;rw[if_pos h]
def ko (h:dP H P a=some o):¬P a/\H a=some o:=by
 by_cases q:P a
 ·rw[AA q]at h;cases h
 ·rw[cP q]at h;exact⟨q,h⟩
def bZ:aU (dP H P) H:=λ_ _ e=>(ko e).2
def eW (e:∀a o,H a=some o->¬P a->H' a=some o/\¬G a):aU (dP H P) (dP H' G):=λa o q=>by
 obtain⟨h1,h2⟩:=ko q;obtain⟨h3,h4⟩:=e a o h2 h1;rw[cP h4];exact h3
noncomputable def join (N N':Hp):Hp:=λa=>match N a with|some o=>some o|none=>N' a
def dU:aU N (join N N'):=λa o e=>by unfold join;rw[e]
def eJ (e:N a=none):join N N' a=N' a:=by unfold join;rw[e]
def own (σ:St)(ρ:Env)(a:Addr):Prop:=∃(i:Nat)(d:D),ρ[i]? = some (some (d,true))/\σ[i]? = some (some (V.ref a))
inductive Bx (K:Frag)(C:Hp):HO->D->Prop where
 |lst {vs:List V}{ds:List D}(h:IsL K C vs ds):Bx K C (.lst vs) (.lst ds)
 |dk {ks:List eK}{vs:List V}{ds:List D}(hl:ks.length=vs.length) (h:IsL K C vs ds) {ob:Obj}:Bx K C (.dK (ks.zip vs) ob) (.dk ks ds)
 |dt {ks:List (List eK)}{vs:List V}{ds:List D}(hl:ks.length=vs.length) (h:IsL K C vs ds):Bx K C (.dT (ks.zip vs)) (.dt ks ds)
def Bx.mono (h:Bx K C o d)(e:aU C G):Bx K G o d:=by
 cases h with
 |lst h=>exact .lst (h.mono e)
 |dk hl h=>exact .dk hl (h.mono e)
 |dt hl h=>exact .dt hl (h.mono e)
def Bx.is (h:Bx K C o d)(e:C a=some o):Is K C (.ref a) d:=by
 cases h with
 |lst h=>exact .lst (gN.of e) h
 |dk hl h=>exact .dk e hl h
 |dt hl h=>exact .dt e hl h
structure dR (K:Frag)(B0 H0 N H:Hp)(σ:St)(ρ:Env):Prop where
 bh:aU B0 H0
 tb:Tb K B0
 ext:Ext B0 N H0 H
 len:ρ.length=σ.length
 sh:∀(i:Nat)(d:D),ρ[i]? = some (some (d,false))->∃v,σ[i]? = some (some v)/\Is K (dP N (own σ ρ)) v d
 ow:∀(i:Nat)(d:D),ρ[i]? = some (some (d,true))->∃(a:Addr)(o:HO),σ[i]? = some (some (V.ref a))/\N a=some o/\H0 a=none/\Bx K (dP N (own σ ρ)) o d
 inj:∀(i j:Nat)(a:Addr)(d e:D),ρ[i]? = some (some (d,true))->ρ[j]? = some (some (e,true))->σ[i]? = some (some (V.ref a))->σ[j]? = some (some (V.ref a))->i=j
def wL (K:Frag)(B0 H0 H:Hp)(σ:St)(ρ:Env):Prop:=∃N,dR K B0 H0 N H σ ρ
section
variable {K:Frag}{B0 H0 N H H':Hp}{σ:St}{ρ:Env}
def dR.owL (s:dR K B0 H0 N H σ ρ)(i:Nat)(d:D)(q:ρ[i]? = some (some (.lst es,true)))(hd:d=.lst es:=by rfl):∃(a:Addr)(vs:LV)(ds:LD),d=.lst ds/\σ[i]? = some (some (V.ref a))/\N a=some (.lst vs)/\H0 a=none/\IsL K (dP N (own σ ρ)) vs ds:=by
 obtain⟨a,o,h1,h2,h3,h4⟩:=s.ow i _ q;cases h4 with
 |lst h4=>exact⟨a,_,es,hd,h1,h2,h3,h4⟩
def boxed:HO->Prop
 |.lst _|.dK _ _|.dT _=>True
 |_=>False
def Bx.boxed (h:Bx K C o d):boxed o:=by cases h<;>exact trivial
def dR.owned (s:dR K B0 H0 N H σ ρ)(h:own σ ρ a):∃o,(N a=some o/\boxed o)/\H0 a=none:=by
 obtain⟨i,d,h1,h2⟩:=h;obtain⟨M,o,h3,h4,h5,G⟩:=s.ow i d h1;rw[h2]at h3;cases h3;exact⟨o,⟨h4,G.boxed⟩,h5⟩
def dR.rep (s:dR K B0 H0 N H σ ρ):ga K N σ ρ:=⟨s.tb.mono s.ext.bn,λi d b q=>by
 cases b with
 |false=>obtain⟨v,h1,h2⟩:=s.sh i d q;exact⟨v,h1,h2.mono bZ⟩
 |true=>
  obtain⟨a,o,h2,h3,_,h4⟩:=s.ow i d q;exact⟨_,h2,(h4.mono bZ).is h3⟩⟩
noncomputable def gP (ρ:Env):Env:=ρ.map λx=>match x with|some (d,false)=>some (d,false)|_=>none
def Fz {i:Nat}{d:D}{b:Bool}(h:(gP ρ)[i]? = some (some (d,b))):b=false/\ρ[i]? = some (some (d,false)):=by
 unfold gP at h;rw[vA]at h;cases e:ρ[i]? with
 |none=>rw[e]at h;cases h
 |some x=>
  rw[e]at h;match x,h with
  |some (d',false),h=>cases h;exact⟨rfl,rfl⟩
  |some (d',true),h=>cases h
  |none,h=>cases h
def dR.tbC (s:dR K B0 H0 N H σ ρ):Tb K (dP N (own σ ρ)):=λx hx c P q=>by
 have z:=s.tb.mono s.ext.bn x hx c P q;rw[cP]
 ·exact z
 ·intro y;obtain⟨o,⟨y,G⟩,_⟩:=s.owned y;rw[z]at y;cases y;exact G
def dR.repH (s:dR K B0 H0 N H σ ρ):ga K (dP N (own σ ρ)) σ (gP ρ):=⟨s.tbC,λi d b q=>by
 obtain⟨rfl,G⟩:=Fz q;exact s.sh i d G⟩
def dR.grow (s:dR K B0 H0 N H σ ρ)(x:Ext N N' H H'):dR K B0 H0 N' H' σ ρ:=by
 have c:aU (dP N (own σ ρ)) (dP N' (own σ ρ)):=eW λa o e q=>⟨x.bn a o e,q⟩;refine⟨s.bh,s.tb,s.ext.trans x,s.len,λi d q=>?_,λi d q=>?_,s.inj⟩
 ·obtain⟨v,h1,h2⟩:=s.sh i d q;exact⟨v,h1,h2.mono c⟩
 ·obtain⟨a,o,h2,h3,h4,h5⟩:=s.ow i d q;exact⟨a,o,h2,x.bn _ _ h3,h4,h5.mono c⟩
def dR.growH (s:dR K B0 H0 N H σ ρ)(x:Ext (dP N (own σ ρ)) N' H H'):dR K B0 H0 (join N N') H' σ ρ/\aU N' (dP (join N N') (own σ ρ)):=by
 have M:Ext N (join N N') H H':=by
  refine⟨x.hh,dU,λa o e=>?_,λa o e=>?_⟩
  ·cases q:N a with
   |some u=>
    have:join N N' a=some u:=dU _ _ q;rw[this]at e;cases e;exact x.hh _ _ (s.ext.nh _ _ q)
   |none=>rw[eJ q]at e;exact x.nh _ _ e
  ·cases q:N a with
   |some u=>
    have:join N N' a=some u:=dU _ _ q;rw[this]at e;cases e;exact .inl rfl
   |none=>
    rw[eJ q]at e;rcases x.new a o e with z|z
    ·have:=bZ _ _ z;rw[q]at this;cases this
    ·exact .inr z
 refine⟨s.grow M,λa o e=>?_⟩;rcases x.new a o e with z|z
 ·obtain⟨O,T⟩:=ko z;rw[cP O];exact dU _ _ T
 ·have G:N a=none:=s.ext.nh.free z;have:¬own σ ρ a:=λq=>by obtain⟨vs,⟨q,_⟩,_⟩:=s.owned q;rw[G]at q;cases q
  rw[cP this,eJ G];exact e
noncomputable def unown (ρ:Env):Env:=ρ.map λx=>x.map λy=>(y.1,false)
def lw {i:Nat}{d:D}{b:Bool}(h:(unown ρ)[i]? = some (some (d,b))):b=false/\∃c,ρ[i]? = some (some (d,c)):=by
 unfold unown at h;rw[vA]at h;cases e:ρ[i]? with
 |none=>rw[e]at h;cases h
 |some x=>
  rw[e]at h;match x,h with
  |some (d',c),h=>cases h;exact⟨rfl,c,rfl⟩
  |none,h=>cases h
def uj {a:Addr}:¬own σ (unown ρ) a:=λ⟨i,d,h,_⟩=>by
 obtain⟨z,_⟩:=lw h;cases z
def dR.unown (s:dR K B0 H0 N H σ ρ):dR K B0 H0 N H σ (unown ρ):=by
 refine⟨s.bh,s.tb,s.ext,by unfold DL.unown;rw[vI];exact s.len,λi d q=>?_,λi d q=>?_,λi j a d e q=>?_⟩
 ·obtain⟨_,c,q⟩:=lw q;obtain⟨v,h1,h2⟩:=s.rep.at' i d c q;exact⟨v,h1,h2.mono λa o e=>by rw[cP uj];exact e⟩
 ·obtain⟨z,_⟩:=lw q;cases z
 ·obtain⟨z,_⟩:=lw q;cases z
def cn {α:Type}{l:List α}{i j:Nat}{x y:α}(h:(l.set i x)[j]? = some y):(i=j/\x=y)\/(i≠j/\l[j]? = some y):=by
 by_cases e:i=j
 ·subst e;rw[List.getElem?_set]at h;split at h
  ·split at h
   ·exact .inl ⟨rfl,vK h⟩
   ·cases h
  ·contradiction
 ·rw[vB e]at h;exact .inr ⟨e,h⟩
def ul {α G:Type}{l:List α}{m:List G}{i:Nat}{x y:α}(h:(l.set i x)[i]? = some y)(e:l.length=m.length):i<m.length:=by
 obtain⟨h,_⟩:=vV h;rw[length_set]at h;omega
def qg {i:Nat}{v:V}{x:OB}{a:Addr}(h:own (σ.set i (some v)) (ρ.set i x) a):(v=.ref a/\∃d,x=some (d,true))\/∃j,j≠i/\∃d,ρ[j]? = some (some (d,true))/\σ[j]? = some (some (V.ref a)):=by
 obtain⟨j,d,h1,h2⟩:=h;rcases cn h1 with⟨e,q⟩|⟨e,q⟩
 ·rcases cn h2 with⟨e2,G⟩|⟨e2,G⟩
  ·cases G;exact .inl ⟨rfl,d,q⟩
  ·exact absurd e e2
 ·rcases cn h2 with⟨e2,G⟩|⟨e2,G⟩
  ·exact absurd e2 e
  ·exact .inr ⟨j,λz=>e z.symm,d,q,G⟩
def dR.bind (s:dR K B0 H0 N H σ ρ){i:Nat}{v:V}{d:D}(h:Is K (dP N (own σ ρ)) v d):dR K B0 H0 N H (σ.set i (some v)) (ρ.set i (some (d,false))):=by
 have o:∀a,own (σ.set i (some v)) (ρ.set i (some (d,false))) a->own σ ρ a:=λa q=>by
  rcases qg q with⟨_,d',p⟩|⟨j,_,d',O,T⟩
  ·cases p
  ·exact⟨j,d',O,T⟩
 have c:aU (dP N (own σ ρ)) (dP N (own (σ.set i (some v)) (ρ.set i (some (d,false))))):=eW λa u e q=>⟨e,λz=>q (o a z)⟩;refine⟨s.bh,s.tb,s.ext,by simp[s.len],λj e q=>?_,λj e q=>?_,λj k a e f q U h1 h2=>?_⟩
 ·rcases cn q with⟨rfl,p⟩|⟨ne,p⟩
  ·cases p
   have hi:=ul q s.len;exact⟨v,by simp[hi],h.mono c⟩
  ·obtain⟨w,h1,h2⟩:=s.sh j e p;exact⟨w,by rw[vB ne];exact h1,h2.mono c⟩
 ·rcases cn q with⟨rfl,p⟩|⟨ne,p⟩
  ·cases p
  ·obtain⟨a,o,h1,h2,h3,h4⟩:=s.ow j e p;exact⟨a,o,by rw[vB ne];exact h1,h2,h3,h4.mono c⟩
 ·rcases cn q with⟨rfl,p⟩|⟨ne,p⟩
  ·cases p
  ·rcases cn U with⟨rfl,G⟩|⟨M,G⟩
   ·cases G
   ·rw[vB ne]at h1;rw[vB M]at h2;exact s.inj j k a e f p G h1 h2
def dR.bindOwn (s:dR K B0 H0 N H σ ρ){i:Nat}{a:Addr}{ob:HO}{dd:D}(h:N a=some ob)(h0:H0 a=none)(M:∀(j:Nat)(d:D),ρ[j]? = some (some (d,true))->σ[j]? ≠ some (some (V.ref a)))
  (U:∀(j:Nat)(d:D),j≠i->ρ[j]? = some (some (d,false))->∃v,σ[j]? = some (some v)/\Is K (dP N (λb=>own σ ρ b\/b=a)) v d) (l:∀(j:Nat)(d:D),j≠i->ρ[j]? = some (some (d,true))->∃(O:Addr)(o:HO),σ[j]? = some (some (V.ref O))/\N O=some o/\Bx K (dP N (λb=>own σ ρ b\/b=a)) o d)
  (m:Bx K (dP N (λb=>own σ ρ b\/b=a)) ob dd):dR K B0 H0 N H (σ.set i (some (.ref a))) (ρ.set i (some (dd,true))):=by
 have o:∀b,own (σ.set i (some (V.ref a))) (ρ.set i (some (dd,true))) b->own σ ρ b\/b=a:=λb q=>by
  rcases qg q with⟨p,_⟩|⟨j,_,d',n,r⟩
  ·cases p;exact .inr rfl
  ·exact .inl ⟨j,d',n,r⟩
 have c:aU (dP N (λb=>own σ ρ b\/b=a)) (dP N (own (σ.set i (some (V.ref a))) (ρ.set i (some (dd,true))))):=eW λb u e q=>⟨e,λz=>q (o b z)⟩;refine⟨s.bh,s.tb,s.ext,by simp[s.len],λj e q=>?_,λj e q=>?_,λj k b e f q g h1 h2=>?_⟩
 ·rcases cn q with⟨rfl,p⟩|⟨ne,p⟩
  ·cases p
  ·obtain⟨w,h1,h2⟩:=U j e (Ne.symm ne) p;exact⟨w,by rw[vB ne];exact h1,h2.mono c⟩
 ·rcases cn q with⟨rfl,p⟩|⟨ne,p⟩
  ·cases p
   have hi:=ul q s.len;exact⟨a,ob,by simp[hi],h,h0,m.mono c⟩
  ·obtain⟨O,o',h1,h2,h4⟩:=l j e (Ne.symm ne) p;have h3:H0 O=none:=by
    obtain⟨y,_,k1,_,k3,_⟩:=s.ow j e p;rw[h1]at k1;cases k1;exact k3
   exact⟨O,o',by rw[vB ne];exact h1,h2,h3,h4.mono c⟩
 ·rcases cn q with⟨rfl,p⟩|⟨ne,p⟩
  ·rcases cn g with⟨rfl,T⟩|⟨G,T⟩
   ·rfl
   ·rw[vB G]at h2;have t:V.ref a=V.ref b:=by
     rcases cn h1 with⟨_,z⟩|⟨z,_⟩
     ·exact vK z
     ·exact absurd rfl z
    cases t
    exact absurd h2 (M k f T)
  ·rcases cn g with⟨rfl,T⟩|⟨G,T⟩
   ·rw[vB ne]at h1;have x:V.ref a=V.ref b:=by
     rcases cn h2 with⟨_,z⟩|⟨z,_⟩
     ·exact vK z
     ·exact absurd rfl z
    cases x
    exact absurd h1 (M j e p)
   ·rw[vB ne]at h1;rw[vB G]at h2;exact s.inj j k b e f p T h1 h2
end
inductive Res where
 |nx (ρ:Env)|rt (d:D) (b:Bool)|bk (ρ:Env)|ct (ρ:Env)
abbrev FS:=Env->Option Res
def Pf (K:Frag)(B0 H0:Hp)(E:Ends):Res->Prop
 |.nx ρ=>∀σ H,wL K B0 H0 H σ ρ->E.nx σ H
 |.rt d b=>∀v H N,Ext B0 N H0 H->Is K N v d->(b=true->Od K H0 N v d)->E.rt v H
 |.bk ρ=>∀σ H,wL K B0 H0 H σ ρ->E.bk σ H
 |.ct ρ=>∀σ H,wL K B0 H0 H σ ρ->E.ct σ H
def nZ (K:Frag)(g:FS):TS:=λE σ H=>∃(B0 H0:Hp)(ρ:Env)(r:Res),wL K B0 H0 H σ ρ/\g ρ=some r/\Pf K B0 H0 E r
section
variable {K:Frag}{B0 H0 N H H':Hp}{σ:St}{ρ:Env}{E:Ends}
def dR.writeB (s:dR K B0 H0 N H σ ρ)(hi:ρ[i]? = some (some (d,true)))(G:σ[i]? = some (some (V.ref a)))(h:Bx K (dP N (own σ ρ)) ob dd):
  dR K B0 H0 (upd N a ob) (upd H a ob) σ (ρ.set i (some (dd,true))):=by
 have oa:own σ ρ a:=⟨i,d,hi,G⟩;obtain⟨r,hw,h0⟩:=s.owned oa;have g:B0 a=none:=s.bh.free h0;have o:∀b,own σ (ρ.set i (some (dd,true))) b↔own σ ρ b:=λb=>by
  constructor
  ·rintro⟨j,e,O,M⟩;rcases cn O with⟨rfl,p⟩|⟨_,p⟩
   ·exact⟨i,d,hi,M⟩
   ·exact⟨j,e,p,M⟩
  ·rintro⟨j,e,O,M⟩;by_cases z:i=j
   ·subst z;exact⟨i,dd,by rw[List.getElem?_set_self (vV hi).1],M⟩
   ·exact⟨j,e,by rw[vB z];exact O,M⟩
 have c:aU (dP N (own σ ρ)) (dP (upd N a ob) (own σ (ρ.set i (some (dd,true))))):=eW λb u e q=>by
  have ne:b≠a:=λz=>q (z ▸ oa);exact⟨by rw[aG ne];exact e,λz=>q ((o b).mp z)⟩
 refine⟨s.bh,s.tb,⟨λb u e=>?_,λb u e=>?_,λb u e=>?_,λb u e=>?_⟩,by rw[length_set];exact s.len,λj e q=>?_,λj e q=>?_,λj k b e f q l h1 h2=>?_⟩
 ·rw[aG (λz=>by subst z;rw[h0]at e;cases e)];exact s.ext.hh _ _ e
 ·rw[aG (λz=>by subst z;rw[g]at e;cases e)];exact s.ext.bn _ _ e
 ·by_cases z:b=a
  ·subst z;rw[aB]at e |-;exact e
  ·rw[aG z]at e |-;exact s.ext.nh _ _ e
 ·by_cases z:b=a
  ·subst z;exact .inr h0
  ·rw[aG z]at e;exact s.ext.new _ _ e
 ·rcases cn q with⟨rfl,p⟩|⟨ne,p⟩
  ·cases p
  ·obtain⟨v,h1,h2⟩:=s.sh j e p;exact⟨v,h1,h2.mono c⟩
 ·rcases cn q with⟨rfl,p⟩|⟨ne,p⟩
  ·cases p
   exact⟨a,ob,G,aB,h0,h.mono c⟩
  ·obtain⟨U,o',h1,h2,h3,h4⟩:=s.ow j e p;have m:U≠a:=λz=>by subst z;exact ne (s.inj i j _ d e hi p G h1)
   exact⟨U,o',h1,by rw[aG m];exact h2,h3,h4.mono c⟩
 ·have get:∀ {j:Nat}{e:D},(ρ.set i (some (dd,true)))[j]? = some (some (e,true))->∃T,ρ[j]? = some (some (T,true)):=λ{j e} q=>by
   rcases cn q with⟨rfl,p⟩|⟨ne,p⟩
   ·exact⟨d,hi⟩
   ·exact⟨e,p⟩
  obtain⟨T,O⟩:=get q;obtain⟨n,M⟩:=get l;exact s.inj j k b T n O M h1 h2
def dR.write (s:dR K B0 H0 N H σ ρ)(hi:ρ[i]? = some (some (d,true)))(G:σ[i]? = some (some (V.ref a)))(h:IsL K (dP N (own σ ρ)) vs ds):
  dR K B0 H0 (upd N a (.lst vs)) (upd H a (.lst vs)) σ (ρ.set i (some (.lst ds,true))):=s.writeB hi G (.lst h)
def dR.tups (s:dR K B0 H0 N H σ ρ):∀a vs,iP K N a vs->iP K (dP N (own σ ρ)) a vs:=λa vs h=>by
 have G:∀u,N a=some u->¬boxed u->dP N (own σ ρ) a=some u:=λu e hu=>by
  rw[cP λz=>?_];exact e;obtain⟨O,⟨q,M⟩,_⟩:=s.owned z;rw[e]at q;cases q;exact hu M
 rcases h with (h|⟨o,h⟩)|h
 ·exact .inl (.inl (G _ h (λq=>q)))
 ·exact .inl (.inr ⟨o,G _ h (λq=>q)⟩)
 ·exact .inr h
def dR.flat (s:dR K B0 H0 N H σ ρ)(h:Is K N v d)(n:b8 d=true):Is K (dP N (own σ ρ)) v d:=h.keepT s.tups n
def dR.flats (s:dR K B0 H0 N H σ ρ)(h:IsL K N v d)(n:bB d=true):IsL K (dP N (own σ ρ)) v d:=h.keepT s.tups n
def dR.rebase (s:dR K B0 H0 N H σ ρ):dR K (dP N (own σ ρ)) (dP H (own σ ρ)) N H σ ρ :=
 ⟨eW λa o e q=>⟨s.ext.nh _ _ e,q⟩,s.tbC,⟨bZ,bZ,s.ext.nh,λa o e=>by
  by_cases q:own σ ρ a
  ·exact .inr (AA q)
  ·exact .inl (by rw[cP q];exact e)⟩,s.len,s.sh,λi d q=>by
   obtain⟨a,o,h1,h2,_,h4⟩:=s.ow i d q;exact⟨a,o,h1,h2,AA ⟨i,d,q,h1⟩,h4⟩,s.inj⟩
def dR.unbase (s:dR K B0 H0 N H σ ρ)(t:dR K (dP N (own σ ρ)) (dP H (own σ ρ)) N' H' M ρ'):dR K B0 H0 N' H' M ρ':=by
 have h0:aU H0 (dP H (own σ ρ)):=λa o e=>by
  rw[cP λz=>?_];exact s.ext.hh _ _ e;obtain⟨_,_,q⟩:=s.owned z;rw[q]at e;cases e
 have G:aU B0 (dP N (own σ ρ)):=λa o e=>by
  rw[cP λz=>?_];exact s.ext.bn _ _ e;obtain⟨_,_,q⟩:=s.owned z;rw[s.bh _ _ e]at q;cases q
 refine⟨s.bh,s.tb,⟨h0.trans t.ext.hh,G.trans t.ext.bn,t.ext.nh,λa o e=>?_⟩,t.len,t.sh,λi d q=>?_,t.inj⟩
 ·rcases t.ext.new a o e with z|z
  ·exact s.ext.new a o (bZ _ _ z)
  ·exact .inr (h0.free z)
 ·obtain⟨a,o,h1,h2,h3,h4⟩:=t.ow i d q;exact⟨a,o,h1,h2,h0.free h3,h4⟩
def dR.based (t:dR K B0 H0 N H σ ρ):aU B0 (dP N (own σ ρ)):=λa o e=>by
 rw[cP λz=>?_];exact t.ext.bn _ _ e;obtain⟨_,_,q⟩:=t.owned z;rw[t.bh _ _ e]at q;cases q
@[simp] noncomputable def aA (g h:FS):FS:=λρ=>match g ρ with|some (.nx ρ')=>h ρ'|r=>r
@[simp] noncomputable def aN:FS:=λρ=>some (.nx ρ)
@[simp] noncomputable def cO (c:FT)(g h:FS):FS:=λρ=>match c ρ with|some true=>g ρ|some false=>h ρ|none=>none
@[simp] noncomputable def aF (f:FE):FS:=λρ=>(f ρ).map λx=>.rt x.1 x.2
@[simp] noncomputable def F0:D->Bool
 |.dk _ _=>true
 |.dt _ _=>true
 |_=>false
@[simp] def iT (i:Nat):FS:=λρ=>match ρ[i]? with|some (some (d,b))=>some (.rt d (b && !F0 d))|_=>none
@[simp] def Ld:D->Bool
 |.lst ds=>bB ds
 |_=>false
@[simp] def setE (ρ:Env)(i:Nat)(d:D)(b:Bool):Env :=
 if b8 d=true then ρ.set i (some (d,false))else if b=true/\Ld d=true then ρ.set i (some (d,true))else (unown ρ).set i (some (d,false))
@[simp] def br (i:Nat)(f:FE):FS:=λρ=>(f ρ).map λx=>.nx (setE ρ i x.1 x.2)
@[simp] def yp (i:Nat)(f:FE):FS:=λρ=>(f (gP ρ)).map λx=>.nx (ρ.set i (some (x.1,false)))
@[simp] def tM (i:Nat)(f:FE):FS:=λρ=>match ρ[i]? with
 |some (some (.lst ds,true))=>(f ρ).bind λx=>if b8 x.1=true/\ds.length<sizeLine then some (.nx (ρ.set i (some (.lst (ds++[x.1]),true))))else none
 |_=>none
def IS (q:nZ K (aA g h) E σ H):O8 (nZ K g) (nZ K h) E σ H:=by
 obtain⟨B0,H0,ρ,r,s,e,p⟩:=q;unfold aA at e;cases G:g ρ with
 |none=>rw[G]at e;cases e
 |some M=>
  rw[G]at e;cases M with
  |nx ρ'=>exact⟨B0,H0,ρ,.nx ρ',s,G,λO H' s'=>⟨B0,H0,ρ',r,s',e,p⟩⟩
  |rt d b=>cases e;exact⟨B0,H0,ρ,_,s,G,p⟩
  |bk ρ'=>cases e;exact⟨B0,H0,ρ,_,s,G,p⟩
  |ct ρ'=>cases e;exact⟨B0,H0,ρ,_,s,G,p⟩
def F3 (q:nZ K aN E σ H):KU E σ H:=by
 obtain⟨B0,H0,ρ,r,s,e,p⟩:=q;cases e
 exact p σ H s
def wL.grown (s:dR K B0 H0 N H σ ρ)(h:aU H H'):wL K B0 H0 H' σ ρ:=⟨N,s.grow (.grow s.ext.nh h)⟩
def M4 (q:nZ K (cO c g h) E σ H):OC (BP K c) (nZ K g) (nZ K h) E σ H:=by
 obtain⟨B0,H0,ρ,r,⟨N,s⟩,e,p⟩:=q;unfold cO at e;cases G:c ρ with
 |none=>rw[G]at e;cases e
 |some b=>
  rw[G]at e;refine⟨N,ρ,b,s.ext.nh,s.rep,G,λM h1=>?_⟩;cases b with
  |true=>rw[if_pos rfl];exact⟨B0,H0,ρ,r,.grown s h1,e,p⟩
  |false=>rw[if_neg (by decide)];exact⟨B0,H0,ρ,r,.grown s h1,e,p⟩
def IT (q:nZ K (aF f) E σ H):Mc (tD K f) E σ H:=by
 obtain⟨B0,H0,ρ,r,⟨N,s⟩,e,p⟩:=q;obtain⟨x,ex,e⟩:=oY e;subst e;exact⟨N,ρ,x.1,x.2,s.ext.nh,s.rep,ex,λv G N1 M i1 f1=>p v G N1 (s.ext.trans M) i1 λb=>(f1 b).back s.ext.hh⟩
def F4 (q:nZ K (iT i) E σ H):Mc (pV i) E σ H:=by
 obtain⟨B0,H0,ρ,r,⟨N,s⟩,e,p⟩:=q;unfold iT at e;split at e
 ·rename_i d b ei;cases e
  cases b with
  |false=>
   obtain⟨v,h1,h2⟩:=s.sh i d ei;exact⟨v,h1,p v H N s.ext (h2.mono bZ) (by simp)⟩
  |true=>
   obtain⟨a,o,h1,h2,h3,h4⟩:=s.ow i d ei;cases h4 with
   |lst h4=>exact⟨_,h1,p _ H N s.ext (.lst (gN.of h2) (h4.mono bZ)) λ_=>⟨a,_,_,rfl,rfl,h3,h2,h4.mono bZ⟩⟩
   |dk hl h4=>exact⟨_,h1,p _ H N s.ext (.dk h2 hl (h4.mono bZ)) (by simp)⟩
   |dt hl h4=>exact⟨_,h1,p _ H N s.ext (.dt h2 hl (h4.mono bZ)) (by simp)⟩
 ·cases e
def dR.setE (s:dR K B0 H0 N H σ ρ)(x:Ext N N1 H H1)(h:Is K N1 v d)(f:b=true->Od K H N1 v d):dR K B0 H0 N1 H1 (σ.set i (some v)) (setE ρ i d b):=by
 have s1:=s.grow x;unfold DL.setE;by_cases hn:b8 d=true
 ·rw[if_pos hn];exact s1.bind (s1.flat h hn)
 ·rw[if_neg hn];by_cases hb:b=true/\Ld d=true
  ·rw[if_pos hb];obtain⟨es,rfl⟩:∃es,d=.lst es:=by cases d<;>first|exact⟨_,rfl⟩|(simp at hb)
   obtain⟨a,vs,ds,rfl,z,ha,O,hs⟩:=f hb.1;cases z
   have G:N a=none:=s.ext.nh.free ha;have T:¬own σ ρ a:=λz=>by obtain⟨U,⟨q,_⟩,_⟩:=s.owned z;rw[G]at q;cases q
   have c:aU (dP N (own σ ρ)) (dP N1 (λb=>own σ ρ b\/b=a)):=eW λb u e q=>⟨x.bn _ _ e,λz=>z.elim q λz=>by subst z;rw[G]at e;cases e⟩;refine s1.bindOwn O (s.ext.hh.free ha) (λj e q z=>T ⟨j,e,q,z⟩) (λj e _ q=>?_) (λj e _ q=>?_) (.lst (hs.keepT (λt l st=>?_) hb.2))
   ·obtain⟨w,h1,h2⟩:=s.sh j e q;exact⟨w,h1,h2.mono c⟩
   ·obtain⟨g,o',h1,h2,_,h4⟩:=s.ow j e q;exact⟨g,o',h1,x.bn _ _ h2,h4.mono c⟩
   ·have M:∀u,N1 t=some u->¬boxed u->dP N1 (λb=>own σ ρ b\/b=a) t=some u:=λu e hu=>by
     rw[cP λz=>?_];exact e;rcases z with z|z
     ·obtain⟨U,⟨q,k⟩,_⟩:=s1.owned z;rw[e]at q;cases q;exact hu k
     ·subst z;rw[e]at O;cases O;exact hu trivial
    rcases st with (st|⟨o,st⟩)|st
    ·exact .inl (.inl (M _ st (λq=>q)))
    ·exact .inl (.inr ⟨o,M _ st (λq=>q)⟩)
    ·exact .inr st
  ·rw[if_neg hb];exact s1.unown.bind (h.mono λa o e=>by rw[cP uj];exact e)
def BR (q:nZ K (br i f) E σ H):D1 (tD K f) (jW i) E σ H:=by
 obtain⟨B0,H0,ρ,r,⟨N,s⟩,e,p⟩:=q;obtain⟨x,ex,e⟩:=oY e;subst e;exact⟨N,ρ,x.1,x.2,s.ext.nh,s.rep,ex,λv G N1 M i1 f1=>p _ G ⟨N1,s.setE M i1 f1⟩⟩
def F5 (q:nZ K (yp i f) E σ H):D1 (tD K f) (jW i) E σ H:=by
 obtain⟨B0,H0,ρ,r,⟨N,s⟩,e,p⟩:=q;obtain⟨x,ex,e⟩:=oY e;subst e;refine⟨dP N (own σ ρ),gP ρ,x.1,x.2,bZ.trans s.ext.nh,s.repH,ex,λv G N1 M i1 f1=>?_⟩;obtain⟨s1,c⟩:=s.growH M;exact p _ G ⟨_,s1.bind (i1.mono c)⟩
def IU (q:nZ K (tM i f) E σ H):∃(a:Addr)(us:LV),σ[i]? = some (some (V.ref a))/\H a=some (.lst us)/\La (tD K f) OR σ H λxs H2=>BL (.ref a) xs H2 λ_ O=>E.nx σ O:=by
 obtain⟨B0,H0,ρ,r,⟨N,s⟩,e,p⟩:=q;unfold tM at e;split at e
 ·rename_i ds ei;obtain⟨x,ex,e⟩:=oX e;split at e
  ·rename_i hx;cases e
   obtain⟨a,vs,G,z,h1,h2,h3,h4⟩:=s.owL i _ ei;cases z
   refine⟨a,vs,h1,s.ext.nh _ _ h2,N,ρ,x.1,x.2,s.ext.nh,s.rep,ex,λv U N1 M i1 f1=>⟨a,vs,v,rfl,rfl,M.hh _ _ (s.ext.nh _ _ h2),by rw[h4.length];exact hx.2,?_⟩⟩;have s1:=s.grow M;obtain⟨b,T,G,z,k1,k2,_,k4⟩:=s1.owL i _ ei;cases z
   rw[h1]at k1;cases k1;rw[M.bn _ _ h2]at k2;cases k2;exact p σ _ ⟨_,s1.write ei h1 (k4.append (.cons (s1.flat i1 hx.1) .nil))⟩
  ·cases e
 ·cases e
end
noncomputable def dr (c:FT)(g:FS):Nat->Env->Option Res
 |0,_=>none
 |n+1,ρ=>match c ρ with
  |some true=>match g ρ with
   |some (.nx ρ')=>dr c g n ρ'
   |some (.ct ρ')=>dr c g n ρ'
   |some (.bk ρ')=>some (.nx ρ')
   |r=>r
  |some false=>some (.nx ρ)
  |none=>none
def DG (q:nZ K (dr c g n) E σ H):EW (BP K c) (nZ K g) E σ H:=by
 obtain⟨B0,H0,ρ,r,s,e,p⟩:=q;refine⟨λm σ H=>∃ρ,wL K B0 H0 H σ ρ/\dr c g m ρ=some r,⟨n,ρ,s,e⟩,?_⟩;rintro m σ H ⟨ρ,⟨N,s⟩,e⟩;cases m with
 |zero=>cases e
 |succ m=>
  unfold dr at e;cases M:c ρ with
  |none=>rw[M]at e;cases e
  |some b=>
   rw[M]at e;refine⟨N,ρ,b,s.ext.nh,s.rep,M,λU h1=>?_⟩;cases b with
   |false=>rw[if_neg (by decide)];cases e;exact p σ U (.grown s h1)
   |true=>
    rw[if_pos rfl];refine⟨λσ H=>∃ρ,wL K B0 H0 H σ ρ/\dr c g m ρ=some r,λG H' w=>⟨m,lt_succ_self m,w⟩,?_⟩;cases O:g ρ with
    |none=>rw[O]at e;cases e
    |some T=>
     rw[O]at e;refine⟨B0,H0,ρ,T,.grown s h1,O,?_⟩;cases T with
     |nx ρ'=>exact λG H' s'=>⟨ρ',s',e⟩
     |ct ρ'=>exact λG H' s'=>⟨ρ',s',e⟩
     |bk ρ'=>cases e;exact λG H' s'=>p G H' s'
     |rt d b=>cases e;exact p
def mO (K:Frag)(J:It)(B:Hp)(ds:LD):Prop:=∀(i:Nat)(H:Hp),aU B H ->
 (∀d,ds[i]? = some d->J.go i H/\∀x H',J.yld i H x H'->∃N,Ext B N H H'/\Is K N x d)/\(ds.length<=i->J.stop i H)
def Ud (K:Frag)(f:FA):TI:=λσ H R=>∃(B:Hp)(ρ:Env)(ds:LD),aU B H/\ga K B σ ρ/\f ρ=some ds/\∀(J:It)(H' N:Hp),Ext B N H H'->mO K J N ds->R J H'
abbrev FG:=D->Env->Option Env
def IV (K:Frag)(tg:FG)(g:TG):Prop:=∀(B0 H0 N H:Hp)(σ:St)(ρ ρ':Env)(v:V)(d:D)(Q:St->Hp->Prop),dR K B0 H0 N H σ ρ->Is K (dP N (own σ ρ)) v d->tg d ρ=some ρ' ->
 (∀G H',wL K B0 H0 H' G ρ'->Q G H')->g v σ H Q
@[simp] noncomputable def dF (i:Nat):FG:=λd ρ=>some (ρ.set i (some (d,false)))
def eX:IV K (dF i) (jW i):=by
 intro B0 H0 N H σ ρ ρ' v d Q s h e k;cases e
 exact k _ H ⟨N,s.bind h⟩
noncomputable def gg (tg:FG)(g:FS):LD->Env->Option Res
 |[],ρ=>some (.nx ρ)
 |d::ds,ρ=>(tg d ρ).bind λG=>match g G with
  |some (.nx ρ')=>gg tg g ds ρ'
  |some (.ct ρ')=>gg tg g ds ρ'
  |some (.bk ρ')=>some (.nx ρ')
  |r=>r
@[simp] def kq (tg:FG)(g:FS)(ρ:Env):gg tg g [] ρ=some (.nx ρ):=by rw[gg]
@[simp] theorem ie (tg:FG)(g:FS)(d:D)(ds:LD)(ρ:Env):gg tg g (d::ds) ρ=(tg d ρ).bind λG=>match g G with
  |some (.nx ρ')=>gg tg g ds ρ'
  |some (.ct ρ')=>gg tg g ds ρ'
  |some (.bk ρ')=>some (.nx ρ')
  |r=>r:=by rw[gg]
@[simp] def lL (f:FA)(tg:FG)(g:FS):FS:=λρ=>(f (gP ρ)).bind λds=>gg tg g ds ρ
def yq (w:IV K tg t)(s1:dR K B0 H0 N H1 σ ρ)(c:aU N1 (dP N (own σ ρ)))(A:mO K J N1 ds)(e:gg tg g ds ρ=some r)(p:Pf K B0 H0 E r):
  ∃W:Nat->Nat->St->Hp->Prop,(∃m,W 0 m σ H1)/\∀i m σ H,W i m σ H->(J.stop i H/\E.nx σ H)\/(J.go i H/\∃N:St->Hp->Prop,(∀G H',N G H'->∃j,j<m/\W (i+1) j G H')/\∀x H',J.yld i H x H'->t x σ H' λT H2=>nZ K g { E with nx:=N,ct:=N,bk:=E.nx } T H2):=by
 refine⟨λi m σ H=>∃(N:Hp)(ρ:Env),dR K B0 H0 N H σ ρ/\aU N1 (dP N (own σ ρ))/\m=ds.length - i/\i<=ds.length/\gg tg g (ds.drop i) ρ=some r,⟨ds.length,_,ρ,s1,c,rfl,uN _,e⟩,?_⟩;clear e s1 c;rintro i m σ H ⟨N,ρ,s,c,rfl,hi,e⟩;have hs:aU N1 H:=c.trans (bZ.trans s.ext.nh);obtain⟨B,C⟩:=A i H hs;by_cases M:i<ds.length
 ·obtain⟨go,D⟩:=B ds[i] (by simp[M]);rw[List.drop_eq_getElem_cons M]at e;obtain⟨U,F,e⟩:=oX e;refine .inr ⟨go,λG H'=>∃(N:Hp)(ρ:Env),dR K B0 H0 N H' G ρ/\aU N1 (dP N (own G ρ))/\gg tg g (ds.drop (i+1)) ρ=some r,λG H' ⟨N',ρ',s',I,L⟩=>⟨_,by omega,N',ρ',s',I,rfl,M,L⟩,λx H' y=>?_⟩;obtain⟨N2,O,i2⟩:=D x H' y;have P:Ext (dP N (own σ ρ)) (join (dP N (own σ ρ)) N2) H H':=by
   refine⟨O.hh,dU,λa o e=>?_,λa o e=>?_⟩
   ·cases q:dP N (own σ ρ) a with
    |some u=>rw[dU _ _ q]at e;cases e;exact O.hh _ _ (s.ext.nh _ _ (bZ _ _ q))
    |none=>rw[eJ q]at e;exact O.nh _ _ e
   ·cases q:dP N (own σ ρ) a with
    |some u=>rw[dU _ _ q]at e;cases e;exact .inl rfl
    |none=>
     rw[eJ q]at e;rcases O.new a o e with z|z
     ·rw[c _ _ z]at q;cases q
     ·exact .inr z
  obtain⟨s2,k⟩:=s.growH P;have l:aU N2 (join (dP N (own σ ρ)) N2):=λa o e=>by
   rcases O.new a o e with z|z
   ·exact dU _ _ (c _ _ z)
   ·rw[eJ ((bZ.trans s.ext.nh).free z)];exact e
  have Q:=i2.mono (l.trans k);have R:aU N1 (dP (join N (join (dP N (own σ ρ)) N2)) (own σ ρ)):=(O.bn.trans l).trans k;refine w _ _ _ _ _ _ _ _ _ _ s2.rebase Q F λT H2 ⟨S,V⟩=>?_;cases h:g U with
  |none=>rw[h]at e;cases e
  |some n=>
   rw[h]at e;refine⟨_,_,U,n,⟨S,V⟩,h,?_⟩;have back:∀ {G:St}{H':Hp}{ρ':Env}{N':Hp},dR K _ _ N' H' G ρ'->dR K B0 H0 N' H' G ρ'/\aU N1 (dP N' (own G ρ')):=λt=>⟨s2.unbase t,R.trans t.based⟩;cases n with
   |nx ρ'=>exact λG H' ⟨N',t⟩=>⟨N',ρ',(back t).1,(back t).2,e⟩
   |ct ρ'=>exact λG H' ⟨N',t⟩=>⟨N',ρ',(back t).1,(back t).2,e⟩
   |bk ρ'=>cases e;exact λG H' ⟨N',t⟩=>p G H' ⟨N',(back t).1⟩
   |rt d b=>
    cases e
    intro v H' N' f X Y;have y:=s2.rebase.ext;have h0:aU H0 (dP H' (λ_=>False)):=λa o e=>by rw[cP (λz=>z)];exact f.hh _ _ (by
     rw[cP λz=>?_];exact s2.ext.hh _ _ e;obtain⟨_,_,q⟩:=s2.owned z;rw[q]at e;cases e)
    have Z:aU H0 (dP H' (λ_=>False)):=h0;have hH:aU H0 (dP H' (λ_=>False)):=h0;have hc:∀a,dP H' (λ_=>False) a=H' a:=λa=>cP (λz=>z);have hb:aU H0 (dP _ (own σ ρ)):=λa o e=>by
     rw[cP λz=>?_];exact s2.ext.hh _ _ e;obtain⟨_,_,q⟩:=s2.owned z;rw[q]at e;cases e
    have bb:aU B0 (dP _ (own σ ρ)):=λa o e=>by
     rw[cP λz=>?_];exact s2.ext.bn _ _ e;obtain⟨_,_,q⟩:=s2.owned z;rw[s2.bh _ _ e]at q;cases q
    refine p v H' N' ⟨hb.trans f.hh,bb.trans f.bn,f.nh,λa o e=>?_⟩ X λz=>(Y z).back hb;rcases f.new a o e with z|z
    ·exact s2.ext.new a o (bZ _ _ z)
    ·exact .inr (hb.free z)
 ·have ei:i=ds.length:=by omega
  subst ei;rw[List.drop_eq_nil_of_le (vT _)]at e;cases e
  exact .inl ⟨C (vT _),p σ H ⟨N,s⟩⟩
def IW (G:IV K tg t)(q:nZ K (lL f tg g) E σ H):Mg (Ud K f) t (nZ K g) E σ H:=by
 obtain⟨B0,H0,ρ,r,⟨N,s⟩,e,p⟩:=q;obtain⟨ds,M,e⟩:=oX e;refine⟨dP N (own σ ρ),gP ρ,ds,bZ.trans s.ext.nh,s.repH,M,λJ U N1 O T=>?_⟩;obtain⟨s1,c⟩:=s.growH O;exact yq G s1 c T e p
def QU (K:Frag)(f:FA):TI:=λσ H R=>∃(B:Hp)(ρ:Env)(ds:LD),aU B H/\ga K B σ ρ/\f ρ=some ds/\∀(J:It)(H' N:Hp),Ext B N H H'->(∀G,mO K J G ds)->R J H'
@[simp] def qF (f:FA)(tg:FG)(g:FS):FS:=λρ=>(f ρ).bind λds=>gg tg g ds ρ
def F6 (G:IV K tg t)(q:nZ K (qF f tg g) E σ H):Mg (QU K f) t (nZ K g) E σ H:=by
 obtain⟨B0,H0,ρ,r,⟨N,s⟩,e,p⟩:=q;obtain⟨ds,M,e⟩:=oX e;refine⟨N,ρ,ds,s.ext.nh,s.rep,M,λJ U N1 O T=>?_⟩;exact yq G (s.grow O) (aU.refl _) (T _) e p
end DL
namespace DL
open PySem PySem.Spec PyProof.Rows L2
abbrev JE (X:Cx)(e:Expr)(f:FE):Prop:=PE X e (tD X.K f)
abbrev JT (X:Cx)(e:Expr)(f:FT):Prop:=PT X e (BP X.K f)
abbrev JW (X:Cx)(e:Expr)(f:FT):Prop:=PW X e (BP X.K f)
abbrev JA (X:Cx)(es:QD)(f:FA):Prop:=PA X es (Oe X.K f)
abbrev JS (X:Cx)(st:Stmt)(g:FS):Prop:=PS X st (nZ X.K g)
abbrev um (X:Cx)(st:List Stmt)(g:FS):Prop:=tI X st (nZ X.K g)
abbrev JI (X:Cx)(tg G:Expr)(f:FA):Prop:=PI X tg G (Ud X.K f)
def M5 (M:Model)(A:Around)(O:QD)(T:Expr)(env:PySem.Env)(U:Value)(E:QV)(P:Shared->Prop):Shared->Prop :=
 wpAny M A (forIn O true λc r=>if r=true then do let ok <-isTrue c env (eval c env);pure (ForInStep.yield ok)else pure (ForInStep.yield r))
  (λok G=>if ok=true then wpAny M A (eval T env) (λx=>wpAny M A (call (.builtin "list.append") [U,x]) (λ_=>P) E) E G else P G) E
def wM {E:QV}(g:∀x s,¬E x s)(I:Nat->Shared->Prop)
  (T:∀n s,I n s->wpAny (model prog w) A (pyNext it) (λr G=>match r with
   |none=>R (.ok .next) G
   |some v=>wpAny (model prog w) A (letOwnedTupleGo BC it v) (λ_=>wpAny (model prog w) A (assign BC env v) (λ_=>M5 (model prog w) A BD xY env Ar E λs=>∃m,m<n/\I m s) E) E G) E s)
  (n:Nat) (h:I n s):codeAny (model prog w) A (.compLoop (.ListComp xY [⟨BC,gA,BD,0⟩] scope pos) 0 it Ar env) R s:=by
 refine codeAny_loop rfl I (λn s i=>?_) n h;show wpAny _ A ((compTurn (.ListComp xY [⟨BC,gA,BD,0⟩] scope pos) 0 it Ar env).onRaise (λx=>do noteFrame x env;theTreesLotGoes x)) _ _ s;refine wpAny_noted (wpAny_mono (E:=E) ?_ (λ_ _ q=>q) λ_ _ z=>(g _ _ z).elim);rw[compTurn_list];refine wX (wpAny_standAt (wX (cA (T n s i) λr G M=>?_)));cases r with
 |none=>exact wY M
 |some v=>
  refine wX (cA M λ_ G M=>wX (cA M λ_ c U=>wX (cA U λok d O=>?_)));cases ok with
  |false=>exact wY ⟨rfl,O⟩
  |true=>exact wX (wX (cA O λx e a=>wX (cA a λ_ f b=>wY (wY ⟨rfl,b⟩))))
def Ext.upd (x:Ext B N H H')(h:H a=none)(G:N a=none):Ext B N H (upd H' a o) :=
 ⟨λb u e=>by rw[aG (λz=>by subst z;rw[h]at e;cases e)];exact x.hh _ _ e,x.bn,λb u e=>by rw[aG (λz=>by subst z;rw[G]at e;cases e)];exact x.nh _ _ e,x.new⟩
noncomputable abbrev jf (X:Cx)(N':LS)(scope:Scope)(cl:List (Str×Addr))(C:Addr)(G:Shared)(M:Hp)(fp:List Addr):Cx :=
 { X with N:=N',s₀:=G,H₀:=M,env:=compEnvC scope cl C X.env,outer:=X.stack,stack:=X.stack,ex:=fp,fn:=λ_=>false,pn:=[],xe:=λ_ _=>False }
inductive nX (X:Cx)(N':List Str)(scope:Scope)(cl:List (Str×Addr)):Nat->List Nat->Prop where
 |nil {j:Nat}(h:N'.length=j):nX X N' scope cl j []
 |cons {j i:Nat}{r:List Nat}{x:Str}(h1:N'[j]? = some x) (h2:X.N[i]? = some x) (h3:X.env.kindOf x=some .cell\/X.env.kindOf x=some .free)
   (h4:(relabel scope X.env).names.lookup x=some .cell\/(relabel scope X.env).names.lookup x=some .free) (h5:cl.lookup x=X.env.cells.lookup x) (t:nX X N' scope cl (j+1) r):nX X N' scope cl j (i::r)
theorem nX.len:∀ {j:Nat}{cap:LN},nX X N' scope cl j cap->N'.length=j+cap.length
 |_,_,.nil h=>by rw[h];rfl
 |j,i::r,.cons _ _ _ _ _ t=>by rw[t.len,vE];omega
theorem nX.get:∀ {j:Nat}{cap:LN}{k i:Nat},nX X N' scope cl j cap->cap[k]? = some i->∃x,N'[j+k]? = some x/\X.N[i]? = some x/\(X.env.kindOf x=some .cell\/X.env.kindOf x=some .free) /\
  ((relabel scope X.env).names.lookup x=some .cell\/(relabel scope X.env).names.lookup x=some .free)/\cl.lookup x=X.env.cells.lookup x
 |_,_,_,_,.nil _,e=>by simp at e
 |j,_,0,_,.cons h1 h2 h3 h4 h5 _,e=>by simp at e;subst e;exact⟨_,h1,h2,h3,h4,h5⟩
 |j,_,k+1,i,.cons _ _ _ _ _ t,e=>by
  obtain⟨x,q,r⟩:=t.get (k:=k) (i:=i) (by simpa using e);exact⟨x,by rw[show j+(k+1)=j+1+k by omega];exact q,r⟩
structure CompSc (X:Cx)(scope:Scope)(cl:List (Str×Addr)):Prop where
 clos:closureFor scope X.env=pure cl
 nocell:∀y∈scope.names,y.2≠.cell
 kind:scope.kind=.function
 names:∀y∈scope.names,y.2=.local->scope.names.lookup y.1=some .local
 sub:∀x c,cl.lookup x=some c->X.env.cells.lookup x=some c
 has:∀x,((relabel scope X.env).names.lookup x=some .cell\/(relabel scope X.env).names.lookup x=some .free)->∃c,cl.lookup x=some c
noncomputable def dW:List (Str×NameKind)->List (Str×Addr)->List (Str×Addr)->List (Str×Addr)
 |[],_,cs=>cs
 | (n,k)::r,cells,cs=>dW r cells (if k == .free then (match cells.lookup n with|some c=>(n,c)::cs|none=>cs)else cs)
def uo:∀(names:List (Str×NameKind))(cs:List (Str×Addr)),(∀y∈names,y.2=.free->(env.cells.lookup y.1).isSome=true) ->
    (do let mut cs:=cs
        for (name,kind)in names do
          if kind == .free then cs:=(name,<-cellOf env name)::cs
        return cs:Sem (List (Str×Addr)))=pure (dW names env.cells cs):=by
  intro names;induction names with
  |nil=>intro cs _;rfl
  |cons y r O=>
    intro cs h;obtain⟨n,k⟩:=y;have G:=λcs=>O cs λy hy=>h y (mZ _ hy);by_cases hk:k=.free
    . subst hk;have hc:=h (n,.free) mX rfl;cases q:env.cells.lookup n with
      |none=>rw[q]at hc;cases hc
      |some c=>
        have M:dW ((n,.free)::r) env.cells cs=dW r env.cells ((n,c)::cs):=by
          rw[dW,q];rfl
        rw[M,<-G ((n,c)::cs)];have e2:cellOf env n=pure c:=by unfold cellOf;rw[q]
        simp only[forIn_cons,beq_self_eq_true,if_true,e2];rfl
    . have hb:(k == NameKind.free)=false:=by simpa using hk
      have M:dW ((n,k)::r) env.cells cs=dW r env.cells cs:=by rw[dW,hb];rfl
      rw[M,<-G cs];simp only[forIn_cons,hb,uV,if_false];rfl
theorem mP:∀(names:List (Str×NameKind))(cs:List (Str×Addr)),(∀y d,cs.lookup y=some d->cells.lookup y=some d)->(dW names cells cs).lookup x=some c->cells.lookup x=some c
 |[],cs,h,e=>h x c e
 | (n,k)::r,cs,h,e=>by
  rw[dW]at e;refine mP r _ (λy d q=>?_) e;split at q
  ·split at q
   ·rename_i M G;rw[lookup_cons]at q;split at q
    ·rename_i hy;cases q
     rw[eq_of_beq hy];exact G
    ·exact h y d q
   ·exact h y d q
  ·exact h y d q
theorem uq:∀(names:List (Str×NameKind))(cs:List (Str×Addr)),(cs.lookup x).isSome=true->((dW names cells cs).lookup x).isSome=true
 |[],cs,h=>h
 | (n,k)::r,cs,h=>by
  rw[dW];refine uq r _ ?_;split
  ·split
   ·rw[lookup_cons];split
    ·rfl
    ·exact h
   ·exact h
  ·exact h
theorem mQ:∀(names:List (Str×NameKind))(cs:List (Str×Addr)),(x,NameKind.free)∈names->(cells.lookup x).isSome=true->((dW names cells cs).lookup x).isSome=true
 | (n,k)::r,cs,hm,hc=>by
  rw[dW];rcases vP hm with e|e
  ·cases e
   refine uq r _ ?_;cases q:cells.lookup x with
   |none=>rw[q]at hc;cases hc
   |some c=>simp
  ·exact mQ r _ e hc
theorem gh {α:Type}{x:Str}{k:α}:∀ {l:List (Str×α)},l.lookup x=some k->(x,k)∈l
 | (n,j)::r,h=>by
  rw[lookup_cons]at h;split at h
  ·rename_i e;cases h
   rw[eq_of_beq e];exact mX
  ·exact mZ _ (gh h)
def M6 {X:Cx}{scope:Scope}(h1:∀y∈scope.names,y.2≠.cell)(h2:scope.kind=.function)(h3:∀y∈scope.names,y.2=.local->scope.names.lookup y.1=some .local)(G:(scope.names.all λy=>!(y.2 == NameKind.free) || (X.env.cells.lookup y.1).isSome)=true):
  CompSc X scope (dW scope.names X.env.cells []):=by
 have h4:∀y∈scope.names,y.2=.free->(X.env.cells.lookup y.1).isSome=true:=λy hy e=>by
  have:=uR G y hy;rw[e]at this;simpa using this
 have frees:∀x,((relabel scope X.env).names.lookup x=some .cell\/(relabel scope X.env).names.lookup x=some .free)->(x,NameKind.free)∈scope.names:=λx h=>by
  have:∃k,(x,k)∈(relabel scope X.env).names/\(k=.cell\/k=.free):=by
   rcases h with h|h
   ·exact⟨_,gh h,.inl rfl⟩
   ·exact⟨_,gh h,.inr rfl⟩
  obtain⟨k,hm,hk⟩:=this;obtain⟨⟨n,j⟩,hj,e⟩:=vO hm;dsimp only at e;split at e
  ·rename_i hc;rw[vC,vC]at hc;cases e
   rw[<-eq_of_beq hc.1.1];exact hj
  ·cases e
   rcases hk with rfl|rfl
   ·exact absurd rfl (h1 _ hj)
   ·exact hj
 exact⟨uo scope.names [] h4,h1,h2,h3,λx c e=>mP scope.names [] (λy d q=>by cases q) e,λx h=>by
  have:=mQ (x:=x) scope.names [] (frees x h) (h4 _ (frees x h) rfl);exact uU this⟩
def wN {scope:Scope}{cells:List (Str×Addr)}{x:Str}(h:(x,NameKind.free)∈scope.names)(hc:(cells.lookup x).isSome=true):(dW scope.names cells []).lookup x=cells.lookup x:=by
 obtain⟨c,e⟩:=uU (mQ (x:=x) scope.names [] h hc);rw[e,mP scope.names [] (λy d q=>by cases q) e]
noncomputable def tN (nT:Nat)(cap:LN)(σ:St):St:=List.replicate nT none++cap.map λi=>(σ[i]?).join
noncomputable def eP (nT:Nat)(cap:LN)(ρ:Env):Env:=List.replicate nT none++cap.map λi=>match ρ[i]? with|some (some (d,_))=>some (d,false)|_=>none
def wO {α:Type}{nT:Nat}{cap:LN}{f:Nat->Option α}{j:Nat}{v:α}(h:(List.replicate nT none++cap.map f)[j]? = some (some v)):∃k i,j=nT+k/\cap[k]? = some i/\f i=some v:=by
 by_cases hj:j<nT
 ·rw[getElem?_append_left (by simpa using hj),getElem?_replicate,if_pos hj]at h;cases h
 ·rw[getElem?_append_right (by simpa using Nat.not_lt.mp hj),length_replicate,vA]at h;obtain⟨i,h1,h2⟩:=oY h;exact⟨j - nT,i,by omega,h1,h2⟩
def IX {α:Type}{nT:Nat}{cap:LN}{f:Nat->Option α}{k i:Nat}{v:α}(h1:cap[k]? = some i)(h2:f i=some v):(List.replicate nT none++cap.map f)[nT+k]? = some (some v):=by
 rw[getElem?_append_right (by simp),length_replicate,vA,Nat.add_sub_cancel_left,h1];simp[h2]
def ga.caps {K:Frag}{B:Hp}{σ:St}{ρ:Env}{nT:Nat}{cap:LN}(h:ga K B σ ρ):ga K B (tN nT cap σ) (eP nT cap ρ):=⟨h.tb,λj d b q=>by
 obtain⟨k,i,rfl,h1,h2⟩:=wO q;split at h2
 ·rename_i d' M e;cases h2
  obtain⟨v,g1,G⟩:=h.at' i _ _ e;exact⟨v,IX h1 (by rw[g1];rfl),G⟩
 ·cases h2⟩
noncomputable def gW (tg:FG)(c:FT)(fe:FE)(ρ:Env):LD->Option LD
 |[]=>some []
 |d::r=>(tg d ρ).bind λG=>(c G).bind λb=>if b=true then (fe G).bind λx=>(gW tg c fe ρ r).map (x.1 :: ·)else gW tg c fe ρ r
@[simp] def Of (tg:FG)(c:FT)(fe:FE)(ρ:Env):gW tg c fe ρ []=some []:=by rw[gW]
@[simp] def AB (tg:FG)(c:FT)(fe:FE)(ρ:Env)(d:D)(r:LD):gW tg c fe ρ (d::r)=(tg d ρ).bind λG=>(c G).bind λb=>if b=true then (fe G).bind λx=>(gW tg c fe ρ r).map (x.1 :: ·)else gW tg c fe ρ r:=by rw[gW]
@[simp] def bS (fi:FA)(nT:Nat)(cap:LN)(tg:FG)(c:FT)(fe:FE):FE:=λρ=>(fi ρ).bind λitems=>if items.length<=sizeLine then (gW tg c fe (eP nT cap ρ) items).map λds=>(.lst ds,true)else none
def Le (K:Frag)(n:Nat)(tg:FG)(g:TG):Prop:=∀(B H:Hp)(σ:St)(ρ M:Env)(v:V)(d:D)(Q:St->Hp->Prop),(∀i,i<n->ρ[i]? = some none)->ga K B σ ρ->aU B H->Is K B v d->tg d ρ=some M ->
 ρ.length=σ.length->(∀G,ga K B G M->(∀O,ga K O σ ρ->ga K O G ρ)->ρ.length=G.length->Q G H)->g v σ H Q
def yr {K:Frag}{n i:Nat}(hi:i<n):Le K n (dF i) (jW i):=by
 intro B H σ ρ O v d Q cl rep s h e hl k;cases e
 have M:i<σ.length:=by
  have:=(vV (cl i hi)).1;omega
 refine k _ ⟨rep.tb,λj e b q=>?_⟩ ?_ (by simpa using hl)
 ·rcases cn q with⟨rfl,p⟩|⟨ne,p⟩
  ·cases p
   exact⟨v,by simp[M],h⟩
  ·obtain⟨w,h1,h2⟩:=rep.at' j e b p;exact⟨w,by rw[vB ne];exact h1,h2⟩
 ·intro T G;refine⟨G.tb,λj e b q=>?_⟩;obtain⟨w,h1,h2⟩:=G.at' j e b q;have ne:i≠j:=λz=>by subst z;rw[cl i hi]at q;cases q
  exact⟨w,by rw[vB ne];exact h1,h2⟩
def JC (X:Cx)(G:QD)(c:FT):Prop:=∀(ah:AO)(s:Shared)(σ:St)(H:Hp)(Q:Bool->Hp->Prop),Inv X ah σ H s->BP X.K c σ H Q ->
 wq X (forIn G true λc r=>if r=true then do let ok <-isTrue c X.env (eval c X.env);pure (ForInStep.yield ok)else pure (ForInStep.yield r)) (TP X ah σ Q) X.xe s
@[simp] noncomputable def gX:FT:=λ_=>some true
def ir:JC X [] gX:=by
 intro ah s σ H Q I h;obtain⟨B,ρ,c,G,rep,e,q⟩:=h;cases e
 exact wpAny_tests_nil ⟨H,I,q H (.refl H)⟩
def dX (h:JT X e f):JC X [e] f:=λah s σ H Q I q=>wpAny_tests_one (h ah s σ H Q I q)
inductive CI (Y:Cx)(tn:Nat->Heap->Prop)(fp:List Addr)(N1 H2:Hp)(κ:Env)(a:Addr)(l:List D->Option (List D))(items ds:List D)(s:Shared):Nat->Prop
 |mk (i:Nat) (N:Hp) (vs:List V) (es r:List D) (σ:St) (H:Hp) (I:Inv Y [] σ H s) (ti:tn i s.heap) (hn:∀b∈fp,H b=none) (hi:i<=items.length) (rp:ga Y.K N1 σ κ) (hl:κ.length=σ.length)
   (x:Ext N1 N H2 H) (n0:N a=none) (h0:H a=some (.lst vs)) (vl:vs.length<=i) (iv:IsL Y.K N vs es) (er:l (items.drop i)=some r) (ed:es++r=ds):CI Y tn fp N1 H2 κ a l items ds s (items.length - i)
def Ext.both (x:Ext N1 N H2 H)(y:Ext N1 N' H H'):Ext N (join N N') H H'/\aU N' (join N N'):=by
 refine⟨⟨y.hh,dU,λa o e=>?_,λa o e=>?_⟩,λa o e=>?_⟩
 ·cases z:N a with
  |some G=>rw[dU _ _ z]at e;cases e;exact y.hh _ _ (x.nh _ _ z)
  |none=>rw[eJ z]at e;exact y.nh _ _ e
 ·cases z:N a with
  |some G=>rw[dU _ _ z]at e;cases e;exact .inl rfl
  |none=>
   rw[eJ z]at e;exact(y.new a o e).elim (λM=>by rw[x.bn _ _ M]at z;cases z) .inr
 ·exact(y.new a o e).elim (λz=>dU _ _ (x.bn _ _ z)) λz=>by rw[eJ (x.nh.free z)];exact e
def Ext.off (x:Ext B N H H')(h:B a=none)(h':H a=some o):N a=none:=by
 cases z:N a with
 |none=>rfl
 |some u=>
  rcases x.new _ _ z with z|z
  ·rw[h]at z;cases z
  ·rw[h']at z;cases z
def DH {Y:Cx}(O:Y.calm=true)(hE:∀x s,¬Y.xe x s)(hg:PG Y tg g)(Qt:Le Y.K nT qy g)(hc:JC Y BD fc)(he:JE Y xY fe)(T:Turn Y.prog Y.w Y.K tg J fp it tn)(Qu:∀i,i<nT->κ[i]? = some none)
  (J1:mO Y.K J N1 items) (hsz:items.length<=sizeLine) (hD:H2 a=none) (Z:∀H',(∀b∈fp,H' b=none)->∀b∈fp,md Y [] H' b)
  (hR:∀D M H' N vs,Inv Y [] M H' D->Ext N1 N H2 H'->N a=none->H' a=some (.lst vs)->IsL Y.K N vs ds->R (.ok .next) D) (h:CI Y tn fp N1 H2 κ a (gW qy fc fe κ) items ds s items.length):
  codeAny (model Y.prog Y.w) Y.A (.compLoop (.ListComp xY [⟨tg,gA,BD,0⟩] scope pos) 0 (.ref it) (.ref a) Y.env) R s:=by
 refine wM hE (λn s=>CI Y tn fp N1 H2 κ a (gW qy fc fe κ) items ds s n) (λn s' h=>?_) _ h;obtain⟨i,N,vs,es,r,M,H',I',ti,hn,hi,rp,lu,x,Rm,Qv,L7,Qw,er,Q⟩:=h;have sH:aU N1 H':=x.bn.trans x.nh;by_cases ya:i<items.length
 ·obtain⟨go,yl⟩:=(J1 i H' sH).1 items[i] (by simp[ya]);refine cA (T.item Y rfl rfl rfl O i [] s' M H' Y.xe I' (Z _ hn) ti go) λq D ⟨u,eu,hq⟩=>?_;subst eu;refine cA hq λ_ s5 ⟨xv,E,I5,rx,y5,t5,SF⟩=>?_;obtain⟨f,x5,i5⟩:=yl xv E y5;obtain⟨x6,c5⟩:=x.both x5;have UB:(join N f) a=none:=x6.off Rm Qv;have S:aU (join N f) E:=x6.nh;rw[List.drop_eq_getElem_cons ya]at er;unfold gW at er;obtain⟨j,e1,er⟩:=oX er;obtain⟨b,e2,er⟩:=oX er;have iO:∀(F:Shared)(U:St)(k H:Hp)(I:LV)(V W:LD),Inv Y (oe fp s5.heap) U k F->ga Y.K N1 U κ->κ.length=U.length->Ext N1 H H2 k->H a=none->k a=some (.lst I) ->
    I.length<=i+1->IsL Y.K H I V->gW qy fc fe κ (items.drop (i+1))=some W->V++W=ds->∃m,m<items.length - i/\CI Y tn fp N1 H2 κ a (gW qy fc fe κ) items ds F m:=λF U k H I V W l WD l9 x9 n9 h9 v9 i9 WE WG=>
   ⟨_,by omega,i+1,H,I,V,W,U,k,l.pins_of λp hp=>by simp at hp,T.keep _ _ _ t5 λb hb o e=>(l.pin (b,o) (mY _ (jE hb e))).1,λb hb=>by
    obtain⟨o,e,d⟩:=T.obj _ _ t5 b hb;exact(l.pin (b,o) (mY _ (jE hb e))).2.1,ya,WD,l9,x9,n9,h9,v9,i9,WE,WG⟩
  refine cA (hg (oe fp s5.heap) s5 M E xv u (λG L=>L=E/\ga Y.K (join N f) G j/\ga Y.K N1 G κ/\κ.length=G.length) (I5.pinned (Z _ SF) (T.obj _ _ t5)) rx
   (Qt (join N f) E M κ j xv items[i] _ Qu (rp.mono (x.bn.trans dU)) S (i5.mono c5) e1 lu λσ1 r1 r2 l1=>⟨rfl,r1,r2 N1 rp,l1⟩)) λ_ s6 ⟨G,L,I6,eH,UC,UD,l6⟩=>?_
  subst eH;have SM:L a=some (.lst vs):=x5.hh _ _ Qv;refine cA (hc _ s6 G L (λc t=>c=b/\aU L t) I6 ⟨join N f,j,b,S,UC,e2,λt z=>⟨rfl,z⟩⟩) λok s7 ⟨t,I7,eb,z⟩=>?_;subst eb;have x7:Ext N1 (join N f) H2 t:=(x.trans x6).trans (.grow S z);cases ok with
  |false=>
   rw[if_neg (by decide)]at er |-;exact iO s7 G t (join N f) vs es r I7 UD l6 x7 UB (z _ _ SM) (Nat.le_succ_of_le L7) (Qw.mono dU) er Q
  |true=>
   rw[if_pos rfl]at er |-;obtain⟨y,e3,er⟩:=oX er;obtain⟨r',e4,er⟩:=oY er;subst er;refine cA (he _ s7 G t (λv P=>∃B,Ext (join N f) B t P/\Is Y.K B v y.1) I7 ⟨join N f,j,y.1,y.2,S.trans z,UC,e3,λv P B C i8 _=>⟨B,C,i8⟩⟩) λw8 s8 ⟨X,P,I8,r8,B,C,i8⟩=>?_;refine cA (uh _ s8 G P (.ref a) [X] (.ref a) [w8] (λ_ k=>k=upd P a (.lst (vs++[X]))) I8 rfl (.cons r8 .nil) ⟨_,vs,X,rfl,rfl,C.hh _ _ (z _ _ SM),by omega,rfl⟩) λ_ F ⟨_,k,l,_,e9⟩=>?_;subst e9;have UE:=C.off UB (z _ _ SM);exact iO F G _ B (vs++[X]) (es++[y.1]) r' l UD l6 ((x7.trans C).upd hD UE) UE aB (by rw[uZ,length_singleton];omega) ((Qw.mono (dU.trans C.bn)).append (.cons i8 .nil)) e4 (by rw[append_assoc];exact Q)
 ·obtain rfl:i=items.length:=by omega
  rw[List.drop_eq_nil_of_le (vT _)]at er;cases er
  rw[uQ]at Q;subst Q;refine cA (T.done Y rfl rfl rfl O items.length [] s' M H' Y.xe I' (Z _ hn) ti ((J1 _ H' sH).2 (vT _))) λq D ⟨hq,l⟩=>?_;subst hq;exact hR D M H' N vs l x Rm Qv Qw
def qG {X:Cx}(Qy:X.calm=true){tg gA V:Expr}{W:QD}{scope:Scope}{I:Pos}{cl:List (Str×Addr)}{N':LS}{nT:Nat}{cap:LN}{qy:FG}{g:TG}{fc:FT}{fe:FE}
  (S:CompSc X scope cl) (cp:nX X N' scope cl nT cap)
  (hg:∀C s H fp,PG (jf X N' scope cl C s H fp) tg g) (Qt:Le X.K nT qy g) (hc:∀C s H fp,JC (jf X N' scope cl C s H fp) W fc) (he:∀C s H fp,JE (jf X N' scope cl C s H fp) V fe)
  {ah:AO}{σ:St}{H2:Hp}{s2:Shared}{it:Addr}{fp:List Addr}{tn:Nat->Heap->Prop}{J:It}{N1:Hp}{ρ:Env}{items ds:LD}{E:QV}
  (d:Inv X ah σ H2 s2) (T:Turn X.prog X.w X.K tg J fp it tn) (Z:tn 0 s2.heap) (f2:∀b∈fp,md X ah H2 b)
  (rep:ga X.K N1 σ ρ) (sN:aU N1 H2) (J1:mO X.K J N1 items) (hsz:items.length<=sizeLine) (ec:gW qy fc fe (eP nT cap ρ) items=some ds) {RR:Value->Addr->Result->Shared->Prop}
  (WH:∀(Dd C:Addr)(s':Shared)(H' N:Hp)(vs:LV)(m:SV),H2 Dd=none->Inv X ah σ H' s'->s'.heap.Ns C m->md X ah H' C->Ext N1 N H2 H'->N Dd=some (.lst vs)->IsL X.K N vs ds->RR (.ref Dd) C (.ok .next) s'):
  wq X (newList []) (λAr U=>wq X (newFunctionEnv scope X.env.globals cl [] X.env.qual none .none (some X.env)) (λQz L=>
   codeAny (model X.prog X.w) X.A (.compStart (.ListComp V [⟨tg,gA,W,0⟩] scope I) 0 (.ref it) Ar { Qz with scope:=relabel scope X.env }) (RR Ar Qz.locals) L) E U) E s2:=by
 refine wpAny_newObj_type (wpAny_newFunctionEnv S.nocell (by intro y hy;simp at hy) (λt M O=>?_) S.kind);dsimp only at M O |-;have D:H2 s2.z=none:=d.fresh;have f:Inv X ah σ (upd H2 s2.z (.lst [])) { s2 with heap:=s2.heap.push { cls:=.type "list",dict:=none,data:=.seq ([]:LU).toArray } }:=d.lnew (t':=s2.toks) (ys:=[]) (its:=[]) .nil (uN _);generalize P:s2.heap.push { cls:=.type "list",dict:=none,data:=.seq ([]:LU).toArray }=n at M O f |-;have hC:n.objs.size=s2.z+1:=by rw[<-P,Heap.size_push]
 have R:∀b o,s2.heap.get? b=some o->n.get? b=some o:=λb o e=>P ▸ vZ _ e;have G:∀b o,n.get? b=some o->t.get? b=some o:=λb o e=>O.extBut b o (vS (vX e)) (vZ _ e);have WI:∀b o,n.get? b=some o->b≠n.objs.size:=λb o e=>vS (vX e);have UF:∀b∈fp,∃o,s2.heap.get? b=some o:=λb hb=>let ⟨o,e,_⟩:=T.obj 0 s2.heap Z b hb;⟨o,e⟩;have WJ:∀b∈fp,b≠s2.z:=λb hb=>let ⟨o,e⟩:=UF b hb;vS (vX e);have UG:∀b∈fp,b≠n.objs.size:=λb hb=>let ⟨o,e⟩:=UF b hb;WI b o (R b o e);have UH:∀x c,X.env.cells.lookup x=some c->c≠n.objs.size:=λx c e=>by
  obtain⟨v,z⟩:=f.cell x c e;exact vS z.lt
 have WK:(upd H2 s2.z (HO.lst [])) n.objs.size=none:=f.hok.fresh (vT _);have stk:∀b∈EK X.stack,∃o,s2.heap.get? b=some o:=λb hb=>by
  obtain⟨_,o,Q,_⟩:=(d.stack).mem hb;exact⟨o,Q⟩
 -- the block's context
 let Y:Cx:=jf X N' scope cl n.objs.size { s2 with heap:=n } (upd H2 s2.z (.lst [])) fp;have ok:Y.Ok:=by
  refine⟨d.ok.mod,?_,d.ok.glob,d.ok.blt,vT _,λx y c e1 e2=>d.ok.inj x y c (S.sub x c e1) (S.sub y c e2),λx h=>S.has x h,λx c h=>absurd h uX,d.ok.hd,d.ok.frames,.inl rfl,λb hb=>⟨UG b hb,λx c e=>(f2 b hb).2.2.2.2.1 x c (S.sub x c e)⟩,λb o e=>?_,?_,λb o e hb=>?_,λb hb hz=>?_,f.stack,λb hb=>f.stkFree b hb⟩
  ·show(relabel scope X.env).kind=.function;exact S.kind
  ·exact f.bs b o e
  ·exact vR f.ok.bsz f.sz
  ·have h1:=(f2 b hb).2.2.2.1;rcases h1 with z|z
   ·exact d.ok.noex b o e z
   ·exact absurd (vQ (vX e) (vR d.ok.bsz z)) (Nat.lt_irrefl _)
  ·rcases vP (d.stkSub b hz)with z|z
   ·exact(f2 b hb).2.1 z
   ·exact(f2 b hb).2.2.1 z
 have I4:Inv Y [] (tN nT cap σ) (upd H2 s2.z (.lst [])) { s2 with heap:=t,toks:=s2.toks+([]:List (Str×Value)).length }:=by
  refine⟨ok,rfl,d.bare,Un.kept G,⟨_,M,λj x v e1 e2 e3=>?_⟩,λx c e=>?_,WK,λx c e=>f.freeC x c (S.sub x c e),λp hp=>absurd (show p∈[]from hp) not_mem_nil,f.hok.kept G,?_⟩
  ·obtain⟨k,i,rfl,h1,h2⟩:=wO e2;obtain⟨y,g1,g2,UI,g4,g5⟩:=cp.get h1;have UJ:N'[nT+k]? = some x:=e1;rw[g1]at UJ;cases UJ;have Qr:σ[i]? = some (some v):=by
    cases q:σ[i]? with
    |none=>rw[q]at h2;cases h2
    |some z=>rw[q]at h2;have:z=some v:=h2;rw[this]
   obtain⟨m,_,hl⟩:=f.loc;obtain⟨u,r,l⟩:=hl i _ v g2 Qr (UI.elim (λz=>.inr (.inl z)) λz=>.inr (.inr z));refine⟨u,r,?_⟩;rcases l with⟨l,_⟩|⟨_,c,lc,ic⟩
   ·rcases UI with z|z<;>(rw[z]at l;cases l)
   ·refine .inr ⟨g4,c,by show cl.lookup _=some c;rw[g5];exact lc,?_⟩;obtain⟨o,Q,hd⟩:=ic;exact⟨o,G _ _ Q,hd⟩
  ·obtain⟨v,o,Q,hd⟩:=f.cell x c (S.sub x c e);exact⟨v,o,G _ _ Q,hd⟩
  ·show(tN nT cap σ).length=N'.length;unfold tN;rw[cp.len];simp
 have B:∀U:Shared,U={ s2 with heap:=t,toks:=s2.toks+([]:List (Str×Value)).length }->codeAny (model Y.prog Y.w) Y.A (.compLoop (.ListComp V [⟨tg,gA,W,0⟩] scope I) 0 (.ref it) (.ref s2.z) Y.env) (RR (.ref s2.z) n.objs.size) U:=by
  rintro U rfl;refine DH (Y:=Y) Qy (λ_ _ z=>z) (hg _ _ _ _) Qt (hc _ _ _ _) (he _ _ _ _) T (λi hi=>?_) J1 hsz D (λH' hn b hb=>⟨hn b hb,UG b hb,ok.exfs b hb,.inl hb,λx c e=>(f2 b hb).2.2.2.2.1 x c (S.sub x c e),λp hp=>absurd (show p∈[]from hp) not_mem_nil⟩) (λs4 σ' H' N vs F x Rm Qv Qw=>?_)
   ⟨0,N1,[],[],ds,tN nT cap σ,_,I4,T.keep _ _ _ Z λb hb o e=>G _ _ (R _ _ e),λb hb=>?_,uN _,rep.caps,?_,(Ext.refl sN).upd D (sN.free D),sN.free D,aB,uN _,.nil,by simpa using ec,rfl⟩
  ·unfold eP;rw[getElem?_append_left (by simpa using hi),getElem?_replicate,if_pos hi]
  ·obtain⟨m,hm,_⟩:=F.loc;have k:aU N (upd N s2.z (.lst vs)):=λa o e=>by rw[aG (λz=>by subst z;rw[Rm]at e;cases e)];exact e
   refine WH s2.z n.objs.size s4 H' (upd N s2.z (.lst vs)) vs m D (d.call' (ch:=fp) F.os ((Un.laid R (vT _) D).trans F.base) F.hok F.bare λb hb=>⟨(f2 b hb).2.2.2.1,(f2 b hb).2.1,(f2 b hb).2.2.2.2.1,(f2 b hb).2.2.2.2.2⟩) hm (d.fpOk (by rw[hC];exact le_succ _) F.free) ⟨x.hh,x.bn.trans k,λa o e=>?_,λa o e=>?_⟩ aB (Qw.mono k)
   ·by_cases z:a=s2.z
    ·subst z;rw[aB]at e;cases e;exact Qv
    ·rw[aG z]at e;exact x.nh _ _ e
   ·by_cases z:a=s2.z
    ·subst z;exact .inr D
    ·rw[aG z]at e;exact x.new _ _ e
  ·rw[aG (WJ b hb)];exact(f2 b hb).1
  ·unfold eP tN;simp
 exact codeAny_compStart_list (B _ rfl) (T.self _ 0 _ _ _ (T.keep _ _ _ Z λb hb o e=>G _ _ (R _ _ e)) (B _ rfl))
def IY (G:X.calm=true) 
  (S:CompSc X scope cl) (f:nX X N' scope cl nT cap) (hi:JI X tg gA fi)
  (i:∀C s H fp,PG (jf X N' scope cl C s H fp) tg g) (O:Le X.K nT qy g) (hc:∀C s H fp,JC (jf X N' scope cl C s H fp) BD fc) (he:∀C s H fp,JE (jf X N' scope cl C s H fp) xY fe)
  (hs:∀x,foldedSetIterable gA X.env x=pure x:=by intro _;rfl):
  JE X (.ListComp xY [⟨tg,gA,BD,0⟩] scope pos) (bS fi nT cap qy fc fe):=by
 intro ah s σ H Q I h;obtain⟨B,ρ,d,b,j,rep,e,q⟩:=h;obtain⟨items,ei,e⟩:=oX e;have hsz:items.length<=sizeLine:=Decidable.byContradiction λz=>by rw[if_neg z]at e;cases e
 rw[if_pos hsz]at e;obtain⟨ds,k,e⟩:=oY e;cases e
 rw[eval_ListComp];refine wpAny_comprehension_free (use:=none) rfl hs S.clos S.kind S.names (cA (hi ah s σ H (λJ H2=>∃N1,Ext B N1 H H2/\mO X.K J N1 items) I ⟨B,ρ,items,j,rep,ei,λJ H2 N1 M U=>⟨N1,M,U⟩⟩) λv s1 h1=>cA h1 λL s2 h2=>?_);obtain⟨it,fp,tn,J,H2,e,l,T,n,f2,N1,M,U⟩:=h2;subst e;refine qG G S f i O hc he l T n f2 (rep.mono M.bn) M.nh U hsz k (RR:=λp C=>compPost (model X.prog X.w) X.A X.xe none (EP X ah σ Q) p C) ?_;intro Dd C s' H' N vs m r t hm fC x c hl;refine⟨m,hm,λh' a=>⟨.ref Dd,H',?_,rfl,q _ H' N (M.trans x) (.lst (gN.of c) hl) λ_=>⟨Dd,vs,ds,rfl,rfl,M.hh.free r,c,hl⟩⟩⟩;obtain⟨u,y,P,D,E,F⟩:=fC;exact t.turned (t':=s'.toks) (λb o hb e=>(a.2 b hb).trans e) u y D E F
def IZ (M:X.calm=true) 
  (n:X.N.Nodup) (p:X.N[i]? = some y) (hy:X.env.kindOf y=some .local)
  (t:swapsWith (.ListComp xY [⟨tg,G,O,0⟩] scope pos) (some (.Name y py)) spos.line X.env=pure true)
  (S:CompSc X scope cl) (u:nX X N' scope cl nT cap) (hi:JI X tg G fi)
  (D:∀C s H fp,PG (jf X N' scope cl C s H fp) tg g) (F:Le X.K nT qy g) (hc:∀C s H fp,JC (jf X N' scope cl C s H fp) O fc) (he:∀C s H fp,JE (jf X N' scope cl C s H fp) xY fe)
  (hs:∀x,foldedSetIterable G X.env x=pure x:=by intro _;rfl):
  JS X (.Assign [.Name y py] (.ListComp xY [⟨tg,G,O,0⟩] scope pos) spos) (br i (bS fi nT cap qy fc fe)):=by
 intro ah s σ H E I h;have h2:D1 (tD X.K (bS fi nT cap qy fc fe)) (jW i) E σ H:=BR h;obtain⟨B,ρ,d,b,L,rep,e,q⟩:=h2;obtain⟨items,ei,e⟩:=oX e;have hsz:items.length<=sizeLine:=Decidable.byContradiction λz=>by rw[if_neg z]at e;cases e
 rw[if_pos hsz]at e;obtain⟨ds,P,e⟩:=oY e;cases e
 rw[exec_Assign_Name_used _ _ _ _ t];refine wX (wpAny_standAt (wX ?_));show wpAny _ _ (do let _ <-comprehension (.ListComp xY [⟨tg,G,O,0⟩] scope pos) scope X.env _ (newList []) false (eval G X.env) (some (assign (.Name y py) X.env))) _ _ s;refine wX (wpAny_mono (wpAny_comprehension_free (use:=some (assign (.Name y py) X.env)) (Q:=λ_ s'=>SP X ah E .next s') rfl hs S.clos S.kind S.names
  (cA (hi ah s σ H (λJ H2=>∃N1,Ext B N1 H H2/\mO X.K J N1 items) I ⟨B,ρ,items,L,rep,ei,λJ H2 N1 U c=>⟨N1,U,c⟩⟩) λv s1 h1=>cA h1 λU8 s2 h2=>?_)) (λ_ s' hq=>wY (wY hq)) λ_ _ e=>e)
 obtain⟨it,fp,tn,J,H2,e,R,T,V,f2,N1,U,c⟩:=h2;subst e;refine qG M S u D F hc he R T V f2 (rep.mono U.bn) U.nh c hsz P (RR:=λW C=>compPost (model X.prog X.w) X.A X.xe (some (assign (.Name y py) X.env)) (λ_ s'=>SP X ah E .next s') W C) ?_;intro Dd C s' H' N vs m Y Z hm fC x j hl;show wpAny _ _ (assign (.Name y py) X.env (.ref Dd)) _ _ s';obtain⟨c0,k,c2,c3,l,c5⟩:=fC;refine wpAny_assign_Name (ub Z n p (.inl hy) (r:=show bf (.ref Dd) (.ref Dd)from rfl) (λs9 I9 ⟨a,sb,ha⟩=>?_) (.inr hy));have nC:C≠a:=by
  rcases ha with z|z
  ·rw[z];exact k
  ·exact λw=>l y a z w.symm
 refine⟨m,hm.sameBut sb nC,λh' f=>⟨_,H',?_,q _ H' N (U.trans x) (.lst (gN.of j) hl) λ_=>⟨Dd,vs,ds,rfl,rfl,U.hh.free Y,j,hl⟩⟩⟩;exact I9.turned (t':=s9.toks) (λb o hb e=>(f.2 b hb).trans e) c0 k c3 l c5
section
variable {X:Cx}{a b c e:Expr}{pos:Pos}
def PE.to (h:PE X e t)(k:∀σ H Q,t' σ H Q->t σ H Q):PE X e t':=λah s σ H Q I q=>h ah s σ H Q I (k σ H Q q)
def PT.to (h:PT X e t)(k:∀σ H Q,t' σ H Q->t σ H Q):PT X e t':=λah s σ H Q I q=>h ah s σ H Q I (k σ H Q q)
def PW.to (h:PW X e t)(k:∀σ H Q,t' σ H Q->t σ H Q):PW X e t':=λwh ah s σ H Q I q=>h wh ah s σ H Q I (k σ H Q q)
def PA.to (h:PA X es t)(k:∀σ H Q,t' σ H Q->t σ H Q):PA X es t':=λpos ah s σ H Q I q=>h pos ah s σ H Q I (k σ H Q q)
def PS.to {st:Stmt}{t t':TS}(h:PS X st t)(k:∀E σ H,t' E σ H->t E σ H):PS X st t':=λah s σ H E I q=>h ah s σ H E I (k E σ H q)
def tI.to {st:List Stmt}{t t':TS}(h:tI X st t)(k:∀E σ H,t' E σ H->t E σ H):tI X st t':=λah s σ H E I q=>h ah s σ H E I (k E σ H q)
def PI.to (h:PI X tg it t)(k:∀σ H Q,t' σ H Q->t σ H Q):PI X tg it t':=λah s σ H Q I q=>h ah s σ H Q I (k σ H Q q)
def DI {K:Frag}{d:D}{v:V}(i:∀B,Is K B v d){σ:St}{H:Hp}{Q:VK}(h:tD K (fC d) σ H Q):tC v σ H Q:=by
 obtain⟨B,ρ,d',b,s,r,e,q⟩:=h;cases e
 exact q.one s (i B)
def pv (M:X.N[i]? = some x:=by rfl)(hv:NW X.env.scope x:=by first|exact Or.inl rfl|exact Or.inr (Or.inl rfl)|exact Or.inr (Or.inr rfl))(hd:(x == ("__debug__" : Str))=false:=by decide)
  (G:(x == ("__classdict__" : Str))=false:=by decide):PE X (.Name x pos) (pV i):=wz M hv hd G
def ak (i:Nat)(G:PE X (.Name x pos) (pV i):=by exact pv):JE X (.Name x pos) (am i):=PE.to G λ_ _ _ h=>M3 h
def a8:JE X (.Constant (.int i) j pos) (fC (.int i)):=PE.to LL λ_ _ _ h=>DI (λ_=>.int i) h
def cI:JE X (.Constant (.bool i) j pos) (fC (.bl i)):=PE.to O1 λ_ _ _ h=>DI (λ_=>.bl i) h
def cQ:JE X (.Constant .none j pos) (fC .non):=PE.to LM λ_ _ _ h=>DI (λ_=>.non) h
def a7:JE X (.Constant (.str x) j pos) (fC (.str x)):=PE.to LO λ_ _ _ h=>DI (λ_=>.str x) h
def Ja (G:Gl X x)(hm:X.mg x=some u)(r:bf v u)(i:∀B,Is X.K B v d)(hd:(x == ("__debug__" : Str))=false:=by decide):JE X (.Name x pos) (fC d):=PE.to (qd G hm r hd) λ_ _ _ h=>DI i h
def aW (G:dI X (binaryOp op) (rD X.K f))(ha:JE X a fa)(hb:JE X b M):JE X (.BinOp a op b pos) (f2 f fa M):=PE.to (OJ G ha hb) λ_ _ _ h=>IN h
def Lf (G:OH X (unaryOp op) (RQ X.K f))(ha:JE X a fa):JE X (.UnaryOp op a pos) (f1 f fa):=PE.to (OK G ha) λ_ _ _ h=>RS h
def bO (G:dI X (compareOp op) (rD X.K f))(ha:JE X a fa)(hb:JE X b M)(hm:behindInMarks op b=false:=by first|exact kj _ (by decide) (by decide)|rfl):JE X (.Compare a [op] [b] pos) (f2 f fa M):=PE.to (Iz G ha hb hm) λ_ _ _ h=>IN h
def wP {K:Frag}{f:FE}{σ:St}{H:Hp}{Q:Bool->Hp->Prop}(h:BP K (aV f) σ H Q):tD K f σ H λx H'=>∃k,x=.bl k/\Q k H':=by
 obtain⟨B,ρ,c,s,r,e,q⟩:=h;unfold aV at e;split at e
 ·rename_i O G M;cases e
  refine⟨B,ρ,.bl c,G,s,r,M,λv H' N x i _=>?_⟩;cases i
  exact⟨c,rfl,q H' x.hh⟩
 ·cases e
def aC (G:dI X (compareOp op) (rD X.K f))(ha:JE X a fa)(hb:JE X b M)(hm:behindInMarks op b=false:=by first|exact kj _ (by decide) (by decide)|rfl):JT X (.Compare a [op] [b] pos) (aV (f2 f fa M)) :=
 PT.to (BH G ha hb hm) λ_ _ _ h=>IN (wP h)
def b9 (h:JE X e f)(he:∀G,isTrue e X.env G=(do let v <-G;standAt e.pos;holding [v] (truthy v)):=by intro _;rfl):JT X e (aV f):=PT.to (LR h he) λ_ _ _ q=>wP q
@[simp] noncomputable def iu (f g:D->D->OB)(fa G M:FE):FE:=λρ=>(fa ρ).bind λx=>(G ρ).bind λy=>match f x.1 y.1 with
 |some (.bl true,_)=>(M ρ).bind λz=>g y.1 z.1
 |some (.bl false,_)=>some (.bl false,false)
 |_=>none
def yt {K:Frag}{f g:D->D->OB}{fa k l:FE}{σ:St}{H:Hp}{Q:VK}(h:tD K (iu f g fa k l) σ H Q):A0 (rD K f) (rD K g) (tD K fa) (tD K k) (tD K l) σ H Q:=by
 obtain⟨B,ρ,d,b,s,r,e,q⟩:=h;obtain⟨x,ex,e⟩:=oX e;obtain⟨y,n,e⟩:=oX e;refine⟨B,ρ,x.1,x.2,s,r,ex,λv A N1 O i1 _=>⟨N1,ρ,y.1,y.2,O.nh,r.mono O.bn,n,λC H2 N2 G i2 _=>?_⟩⟩;split at e
 ·rename_i T U;obtain⟨z,o,e⟩:=oX e;refine⟨N2,x.1,y.1,.bl true,T,G.nh,i1.mono G.bn,i2,U,λp t m M i _=>?_⟩;cases i
  refine⟨true,rfl,?_⟩;rw[if_pos rfl];refine⟨m,ρ,z.1,z.2,M.nh,r.mono (O.bn.trans (G.bn.trans M.bn)),o,λE F u j w _=>⟨u,y.1,z.1,d,b,j.nh,i2.mono (M.bn.trans j.bn),w,e,?_⟩⟩;exact q.into ((O.trans G).trans (M.trans j))
 ·rename_i T U;cases e
  refine⟨N2,x.1,y.1,.bl false,T,G.nh,i1.mono G.bn,i2,U,λp t m M i _=>?_⟩;cases i
  refine⟨false,rfl,?_⟩;rw[if_neg (by decide)];exact(q.into ((O.trans G).trans M)).one M.nh (.bl false)
 ·cases e
def qH (M:dI X (compareOp op) (rD X.K f))(G:dI X (compareOp O) (rD X.K g))(ha:JE X a fa)(hb:JE X b T)(hc:JE X c U)
  (hm:lastMarks [op,O] [b,c]=false:=by with_unfolding_all rfl):JE X (.Compare a [op,O] [b,c] pos) (iu f g fa T U):=PE.to (Fa M G ha hb hc hm) λ_ _ _ h=>yt h
def yu (M:dI X (compareOp op) (rD X.K f))(G:dI X (compareOp O) (rD X.K g))(ha:JE X a fa)(hb:JE X b T)(hc:JE X c U)
  (hm:lastMarks [op,O] [b,c]=false:=by with_unfolding_all rfl):JT X (.Compare a [op,O] [b,c] pos) (aV (iu f g fa T U)):=PT.to (Fb M G ha hb hc hm) λ_ _ _ h=>yt (wP h)
def Jb {K:Frag}{f g:FT}{σ:St}{H:Hp}{Q:Bool->Hp->Prop}(h:BP K (fN f g) σ H Q):O2 (BP K f) (BP K g) σ H Q:=by
 obtain⟨B,ρ,c,s,r,e,q⟩:=h;unfold fN at e;cases G:f ρ with
 |none=>rw[G]at e;cases e
 |some k=>
  rw[G]at e;refine⟨B,ρ,k,s,r,G,λM h1=>?_⟩;cases k with
  |true=>rw[if_pos rfl];exact⟨B,ρ,c,s.trans h1,r,e,λH2 h2=>q H2 (h1.trans h2)⟩
  |false=>rw[if_neg (by decide)];cases e;exact q M h1
def M7 {K:Frag}{f g:FT}{σ:St}{H:Hp}{Q:Bool->Hp->Prop}(h:BP K (fO f g) σ H Q):TR (BP K f) (BP K g) σ H Q:=by
 obtain⟨B,ρ,c,s,r,e,q⟩:=h;unfold fO at e;cases G:f ρ with
 |none=>rw[G]at e;cases e
 |some k=>
  rw[G]at e;refine⟨B,ρ,k,s,r,G,λM h1=>?_⟩;cases k with
  |false=>rw[if_neg (by decide)];exact⟨B,ρ,c,s.trans h1,r,e,λH2 h2=>q H2 (h1.trans h2)⟩
  |true=>rw[if_pos rfl];cases e;exact q M h1
def Jc {K:Frag}{f:FT}{σ:St}{H:Hp}{Q:Bool->Hp->Prop}(h:BP K (cm f) σ H Q):O3 (BP K f) σ H Q:=by
 obtain⟨B,ρ,c,s,r,e,q⟩:=h;obtain⟨k,ek,e⟩:=oY e;subst e;exact⟨B,ρ,k,s,r,ek,λG h1=>q G h1⟩
variable {ax:QD}
def iU (ha:JT X a f):JW X (.BoolOp .And [a] pos) f:=Iq ha
def dY (ha:JT X a f):JW X (.BoolOp .Or [a] pos) f:=LW ha
def kx (ha:JT X a f)(hb:JW X (.BoolOp .And (b::ax) pos) g):JW X (.BoolOp .And (a::b::ax) pos) (fN f g):=PW.to (LX ha hb) λ_ _ _ h=>Jb h
def eY (ha:JT X a f)(hb:JW X (.BoolOp .Or (b::ax) pos) g):JW X (.BoolOp .Or (a::b::ax) pos) (fO f g):=PW.to (O4 ha hb) λ_ _ _ h=>M7 h
def gQ (h:JW X e f):JT X e f:=h.pt
def cu (ha:JT X a f):JT X (.UnaryOp .Not a pos) (cm f):=PT.to (LY ha) λ_ _ _ h=>Jc h
@[simp] noncomputable def hG (f g:FE):FE:=λρ=>match f ρ with|some (.bl true,_)=>g ρ|some (.bl false,_)=>some (.bl false,false)|_=>none
@[simp] noncomputable def EM (f g:FE):FE:=λρ=>match f ρ with|some (.bl true,_)=>some (.bl true,false)|some (.bl false,_)=>g ρ|_=>none
@[simp] noncomputable def M8 (f:FE):FE:=λρ=>match f ρ with|some (.bl c,_)=>some (.bl (!c),false)|_=>none
def du (ha:JE X a f)(hb:JE X (.BoolOp .And (b::ax) pos) g):JE X (.BoolOp .And (a::b::ax) pos) (hG f g):=PE.to (Ma ha hb) λσ H Q h=>by
 obtain⟨B,ρ,d,k,s,r,e,q⟩:=h;unfold hG at e;split at e
 ·rename_i O M;refine⟨B,ρ,_,_,s,r,M,λv T N1 G i1 _=>?_⟩;cases i1
  refine⟨true,rfl,?_⟩;rw[if_pos rfl];exact⟨N1,ρ,d,k,G.nh,r.mono G.bn,e,q.into G⟩
 ·rename_i O M;cases e
  refine⟨B,ρ,_,_,s,r,M,λv T N1 G i1 _=>?_⟩;cases i1
  refine⟨false,rfl,?_⟩;rw[if_neg (by decide)];exact(q.into G).one G.nh (.bl false)
 ·cases e
def qI (ha:JE X a f)(hb:JE X (.BoolOp .Or (b::ax) pos) g):JE X (.BoolOp .Or (a::b::ax) pos) (EM f g):=PE.to (O7 ha hb) λσ H Q h=>by
 obtain⟨B,ρ,d,k,s,r,e,q⟩:=h;unfold EM at e;split at e
 ·rename_i O M;cases e
  refine⟨B,ρ,_,_,s,r,M,λv T N1 G i1 _=>?_⟩;cases i1
  refine⟨true,rfl,?_⟩;rw[if_pos rfl];exact(q.into G).one G.nh (.bl true)
 ·rename_i O M;refine⟨B,ρ,_,_,s,r,M,λv T N1 G i1 _=>?_⟩;cases i1
  refine⟨false,rfl,?_⟩;rw[if_neg (by decide)];exact⟨N1,ρ,d,k,G.nh,r.mono G.bn,e,q.into G⟩
 ·cases e
def cC (h:JE X a f):JE X (.BoolOp op [a] pos) f:=LZ h
def M9 (ha:JE X a f):JE X (.UnaryOp .Not a pos) (M8 f):=PE.to (Mb ha) λσ H Q h=>by
 obtain⟨B,ρ,d,k,s,r,e,q⟩:=h;unfold M8 at e;split at e
 ·rename_i c O M;cases e
  refine⟨B,ρ,_,_,s,r,M,λv T N1 G i1 _=>?_⟩;cases i1
  exact⟨c,rfl,(q.into G).one G.nh (.bl _)⟩
 ·cases e
variable {es:QD}
def ao:JA X [] aj:=PA.to gO λ_ _ _ h=>IQ h
def ai (ha:JE X e f)(G:JA X es g)(hs:starEach (e::es) X.env=(false,eval e X.env)::starEach es X.env:=by rfl):JA X (e::es) (ag f g):=PA.to (eI ha G hs) λ_ _ _ h=>Fy h
@[simp] noncomputable def bo:LD->OB:=λds=>if ds.length<=sizeLine then some (.tup ds,false)else none
@[simp] noncomputable def cw:LD->OB:=λds=>if ds.length<=sizeLine then some (.lst ds,true)else none
def bv {G}(h:JA X es f):JE X (.Tuple es G pos) (fA bo f):=PE.to (A3 h) λσ H Q q=>by
 obtain⟨B,ρ,ds,s,r,e,k⟩:=IP q;refine⟨B,ρ,ds,s,r,e,λvs M N1 G i1=>?_⟩;obtain⟨O,T,d,b,s2,i2,e2,k2⟩:=k vs M N1 G i1;unfold bo at e2;split at e2
 ·rename_i hz;cases e2
  refine⟨by rw[i2.length];exact hz,λp hp=>k2 _ _ (upd O p (.tup vs)) (.laid s2 hp) (.tup (iP.of aB) (i2.mono (Ext.laid s2 hp).bn)) (by simp)⟩
 ·cases e2
def dv (h:JA X es f):JE X (.List es pos) (fA cw f):=PE.to (Mq h) λσ H Q q=>by
 obtain⟨B,ρ,ds,s,r,e,k⟩:=IP q;refine⟨B,ρ,ds,s,r,e,λvs M N1 O i1=>?_⟩;obtain⟨T,G,d,b,s2,i2,e2,k2⟩:=k vs M N1 O i1;unfold cw at e2;split at e2
 ·rename_i hz;cases e2
  refine⟨by rw[i2.length];exact hz,λp hp=>k2 _ _ (upd T p (.lst vs)) (.laid s2 hp) (.lst (gN.of aB) (i2.mono (Ext.laid s2 hp).bn)) λ_=>⟨p,vs,G,rfl,rfl,hp,aB,i2.mono (Ext.laid s2 hp).bn⟩⟩
 ·cases e2
end
section
variable {X:Cx}
def jg (h:dI X f r)(k:∀x y H Q,O x y H Q->r x y H Q):dI X f O:=λah s σ H x y v u Q I G M q=>h ah s σ H x y v u Q I G M (k x y H Q q)
noncomputable def EN (f g:D->D->OB):D->D->OB:=λx y=>match f x y with|some r=>some r|none=>g x y
def oj (h:dI X s (rD X.K f))(h':dI X s (rD X.K g)):dI X s (rD X.K (EN f g)):=by
 intro ah st σ H x y v u Q I G M q;obtain⟨B,dx,O,d,b,T,U,a,e,q⟩:=q;unfold EN at e;split at e
 ·rename_i r c;cases e
  exact h ah st σ H x y v u Q I G M ⟨B,dx,O,_,_,T,U,a,c,q⟩
 ·exact h' ah st σ H x y v u Q I G M ⟨B,dx,O,_,_,T,U,a,e,q⟩
@[simp] noncomputable def Au (C:Int->Int->Bool)(g:Int->Int->D):D->D->OB
 |.int i,.int j=>if C i j=true then some (g i j,false)else none
 |_,_=>none
def wQ (h:dI X s (rI C g))(G:∀i j,C' i j=true->C i j)(M:∀i j B,Is X.K B (g i j) (g' i j)):dI X s (rD X.K (Au C' g')):=by
 refine jg h λx y H Q q=>?_;obtain⟨B,dx,a,d,b,O,T,U,e,q⟩:=q;cases T<;>try (cases e;done)
 cases U<;>try (cases e;done)
 rename_i i j;simp only[Au]at e;split at e
 ·rename_i hc;cases e
  exact⟨i,j,rfl,rfl,G i j hc,q.one O (M i j B)⟩
 ·cases e
def iz (h:dI X s (Ib g))(G:∀i j B,Is X.K B (g i j) (g' i j)):dI X s (rD X.K (Au (λ_ _=>true) g')):=by
 refine jg h λx y H Q q=>?_;obtain⟨B,dx,U,d,b,M,O,T,e,q⟩:=q;cases O<;>try (cases e;done)
 cases T<;>try (cases e;done)
 rename_i i j;simp only[Au,if_true]at e;cases e
 exact⟨i,j,rfl,rfl,q.one M (G i j B)⟩
abbrev MA:D->D->OB:=Au (λ_ _=>true) λi j=>.int (i+j)
abbrev qJ:D->D->OB:=Au (λ_ _=>true) λi j=>.int (i - j)
abbrev Pg:D->D->OB:=Au (λi j=>decide ((-18446744073709551616<i/\i<18446744073709551616)\/(-18446744073709551616<j/\j<18446744073709551616))) λi j=>.int (i*j)
abbrev jq:D->D->OB:=Au (λ_ j=>decide (0<j/\j<1073741824)) λi j=>.int (i / j)
abbrev bY:D->D->OB:=Au (λ_ j=>decide (0<j)) λi j=>.int (i % j)
abbrev Ph:D->D->OB:=Au (λ_ _=>true) λi j=>.int (Builtin.bitAnd i j)
abbrev Ue:D->D->OB:=Au (λ_ _=>true) λi j=>.bl (decide (i<j))
abbrev RT:D->D->OB:=Au (λ_ _=>true) λi j=>.bl (decide (i<=j))
abbrev BS:D->D->OB:=Au (λ_ _=>true) λi j=>.bl (decide (j<i))
abbrev Og:D->D->OB:=Au (λ_ _=>true) λi j=>.bl (decide (j<=i))
def Pj:dI X (binaryOp .Add) (rD X.K MA):=iz Mj λ_ _ _=>.int _
def yv:dI X (binaryOp .Sub) (rD X.K qJ):=iz Mk λ_ _ _=>.int _
def Pk:dI X (binaryOp .Mult) (rD X.K Pg):=wQ Ml (λi j h=>by have h:=Qs h;unfold Ix;omega) λ_ _ _=>.int _
def me:dI X (binaryOp .FloorDiv) (rD X.K jq):=wQ Iy (λi j h=>by have h:=Qs h;unfold OL;omega) λ_ _ _=>.int _
def cX:dI X (binaryOp .Mod) (rD X.K bY):=wQ Mm (λ_ _ h=>Qs h) λ_ _ _=>.int _
def Pl:dI X (binaryOp .BitAnd) (rD X.K Ph):=iz Mn λ_ _ _=>.int _
def RU:dI X (compareOp .Lt) (rD X.K Ue):=iz OM λ_ _ _=>.bl _
def RV:dI X (compareOp .LtE) (rD X.K RT):=iz ON λ_ _ _=>.bl _
def AD:dI X (compareOp .Gt) (rD X.K BS):=iz OO λ_ _ _=>.bl _
def MB:dI X (compareOp .GtE) (rD X.K Og):=iz OP λ_ _ _=>.bl _
@[simp] noncomputable def Oh (C:Str->Str->Bool)(g:Str->Str->D):D->D->OB
 |.str i,.str j=>if C i j=true then some (g i j,false)else none
 |_,_=>none
abbrev Jd:D->D->OB:=Oh (λi j=>decide (i.length+j.length<=sizeLine)) λi j=>.str (i++j)
abbrev QW:D->D->OB:=Oh (λ_ _=>true) λi j=>.bl (!decide (j.cps.toList<i.cps.toList))
def MC:dI X (binaryOp .Add) (rD X.K Jd):=by
 refine jg A1 λx y H Q q=>?_;obtain⟨B,dx,T,d,b,G,M,O,e,q⟩:=q;cases M<;>try (cases e;done)
 cases O<;>try (cases e;done)
 rename_i i j;simp only[Jd,Oh]at e;split at e
 ·rename_i hc;cases e
  exact⟨i,j,rfl,rfl,Qs hc,q.one G (.str _)⟩
 ·cases e
def Pm:dI X (compareOp .LtE) (rD X.K QW):=by
 intro ah s σ H x y v u Q I G M q;obtain⟨B,dx,a,d,b,O,T,U,e,q⟩:=q;cases T<;>try (cases e;done)
 cases U<;>try (cases e;done)
 rename_i i j;simp only[QW,Oh,if_true]at e;cases e
 obtain⟨t,rfl⟩:=G;obtain⟨t',rfl⟩:=M;exact PySem.P.le_str ⟨.bl _,H,I,rfl,q.one O (.bl _)⟩
end
section
variable {X:Cx}{a b c e:Expr}{pos:Pos}{st:Stmt}{ax:List Stmt}
def jF:um X [] aN:=tI.to Ir λ_ _ _ h=>F3 h
def aq (h1:JS X st g)(h2:um X ax h):um X (st::ax) (aA g h):=tI.to (EU h1 h2) λ_ _ _ q=>IS q
def bD (h1:JS X st g):um X [st] g:=Iu h1
def jY {c:Expr}{a b:List Stmt}{G:FT}{g h:FS}(hc:JT X c G)(ha:um X a g)(hb:um X b h):JS X (.If c a b pos) (cO G g h):=PS.to (OD hc ha hb) λ_ _ _ q=>M4 q
def F7 (he:JE X e f):JS X (.Return (some e) pos) (aF f):=PS.to (EV he) λ_ _ _ q=>IT q
def lx (i:Nat)(G:PE X (.Name x p) (pV i):=by exact pv):JS X (.Return (some (.Name x p)) pos) (iT i):=PS.to (EV G) λ_ _ _ q=>F4 q
def aP (G:X.N.Nodup)(he:JE X e f)(hi:X.N[i]? = some x:=by rfl)(hx:Ia X.env.scope x:=by first|exact Or.inl rfl|exact Or.inr rfl)(hs:swapsWith e (some (.Name x p)) pos.line X.env=pure false:=by rfl)
  (hf:X.fn x=true\/X.env.scope.names.lookup x=some .local:=by first|exact .inl rfl|exact .inr rfl):JS X (.Assign [.Name x p] e pos) (br i f):=PS.to (wA G hi hx he hs hf) λ_ _ _ q=>BR q
def Je (G:X.N.Nodup)(he:JE X e f)(hi:X.N[i]? = some x:=by rfl)(hx:Ia X.env.scope x:=by first|exact Or.inl rfl|exact Or.inr rfl)(hs:swapsWith e (some (.Name x p)) pos.line X.env=pure false:=by rfl)
  (hf:X.fn x=true\/X.env.scope.names.lookup x=some .local:=by first|exact .inl rfl|exact .inr rfl):JS X (.Assign [.Name x p] e pos) (yp i f):=PS.to (wA G hi hx he hs hf) λ_ _ _ q=>F5 q
def yw (n:Nat)(hp:PassesOwn (model X.prog X.w) X.A X.env X.xe)(hc:JT X c M)(hb:um X G g):JS X (.While c G [] pos) (dr M g n):=PS.to (EX hp hc hb) λ_ _ _ q=>DG q
def MD (hp:PassesOwn (model X.prog X.w) X.A X.env X.xe)(hc:X.calm=true)(hi:JI X tg T fi)(G:PG X tg t)(M:IV X.K U t)(hb:um X O g)
  (hs:∀x,foldedSetIterable T X.env x=pure x:=by intro _;rfl):JS X (.For tg T O [] pos) (lL fi U g):=PS.to (EZ hp hc hi G hb hs) λ_ _ _ q=>IW M q
def Jf (hp:PassesOwn (model X.prog X.w) X.A X.env X.xe)(hc:X.calm=true)(hi:PI X tg T (QU X.K fi))(G:PG X tg t)(M:IV X.K U t)(hb:um X O g)
  (hs:∀x,foldedSetIterable T X.env x=pure x:=by intro _;rfl):JS X (.For tg T O [] pos) (qF fi U g):=PS.to (EZ hp hc hi G hb hs) λ_ _ _ q=>F6 M q
def wR (he:JE X e f)(U:PE X (.Name x p) (pV i):=by exact pv)
  (G:attributeBase (.Name x p) "append" X.env (eval (.Name x p) X.env)=eval (.Name x p) X.env:=by rfl)
  (O:((backTo cB (starEach [e] X.env)).all (λx=>!x.1) && (backToKw cB (keywordEach [] X.env)).all (λx=>x.1.isSome)
   && decide ([e].length+([]:List Keyword).length+(if([]:List Keyword).isEmpty then 0 else 1)<30))=true:=by rfl)
  (M:(dL.endLine == cB.line)=true:=by rfl) (hs:starEach [e] X.env=[(false,eval e X.env)]:=by rfl) (T:swapsWith (.Call (.Attribute (.Name x p) "append" dL) [e] [] cB) none pos.line X.env=pure false:=by rfl):
  JS X (.Expr (.Call (.Attribute (.Name x p) "append" dL) [e] [] cB) pos) (tM i f):=by
 refine PS.to (BF (BK plainAttrs_list PySem.F.slot_list_append PySem.F.type_list_append uh U (eI he gO hs) G O M hs rfl) T) λE σ H q=>?_;obtain⟨a,us,h1,h2,k⟩:=IU q;exact⟨_,h1,.inl ⟨rfl,us,gN.of h2⟩,k⟩
end
@[simp] noncomputable def aE (g:FS)(n k:Nat):LD->OB:=λds=>if ds.length=n then
 match g (ds.map (λd=>some (d,false))++List.replicate k none) with
 |some (.rt d b)=>some (d,b)
 |some (.nx _)=>some (.non,false)
 |_=>none
 else none
def F8 (K:Frag)(f:LD->OB):Sp:=λvs H Q _=>∃(B:Hp)(ds:LD)(d:D)(b:Bool),(aU B H/\Tb K B)/\IsL K B vs ds/\f ds=some (d,b)/\Fin K B H d b Q
def qK {K:Frag}{B H:Hp}{vs:LV}{ds:LD}{N:LS}(M:aU B H)(tb:Tb K B)(i:IsL K B vs ds):dR K B H B H (L2.jX N vs) (ds.map (λd=>some (d,false))++List.replicate (N.length - vs.length) none):=by
 have G:∀(j:Nat)(d:D)(b:Bool),(ds.map (λd=>some (d,false))++List.replicate (N.length - vs.length) none:Env)[j]? = some (some (d,b))->b=false/\ds[j]? = some d:=λj d b e=>by
  by_cases hj:j<ds.length
  ·rw[getElem?_append_left (by simpa using hj),vA]at e;obtain⟨d',h1,h2⟩:=oY e;cases h2
   exact⟨rfl,h1⟩
  ·rw[getElem?_append_right (by simpa using Nat.not_lt.mp hj),getElem?_replicate]at e;split at e<;>cases e
 have O:∀a,¬own (L2.jX N vs) (ds.map (λd=>some (d,false))++List.replicate (N.length - vs.length) none) a:=λa ⟨j,d,h,_⟩=>by
  obtain⟨z,_⟩:=G j d true h;cases z
 refine⟨M,tb,.refl M,?_,λj d e=>?_,λj d e=>?_,λj k a d e h=>?_⟩
 ·unfold L2.jX;rw[uZ,uZ,vI,vI,length_replicate,length_replicate,i.length]
 ·obtain⟨_,T⟩:=G j d false e;obtain⟨v,h1,h2⟩:=i.get T;refine⟨v,?_,h2.mono λa o e=>by rw[cP (O a)];exact e⟩;unfold L2.jX;have hj:j<vs.length:=(vV h1).1;rw[getElem?_append_left (by simpa using hj),vA,h1]<;>rfl
 ·obtain⟨z,_⟩:=G j d true e;cases z
 ·obtain⟨z,_⟩:=G j d true h;cases z
section
variable {P:Program}{w:World}{K:Frag}{mg:SV}{base:Heap}
def Pn {x qual:Str}{st:Stmt}{f:Addr}{fd:FuncData}{N ps:LS}{k:Nat}{g:FS}(F:NJ K x qual st f fd)(S:FnScope N ps (aJ st))
  (hb:∀(cW:Value)(A:Around)(outer:List PySem.Env)(s:Shared)(H:Hp)(E:XK),eV k (A.deeper (envOfC qual (aJ st) s.z f cW))->um (oh xZ P w K mg base N qual (aJ st) f cW A outer s H E).nox (cf st) g):
  nW P w K mg base xZ (k+1) f fd ps (F8 K (aE g ps.length (N.length - ps.length))):=by
 have len:∀vs H Q E,F8 K (aE g ps.length (N.length - ps.length)) vs H Q E->vs.length=ps.length:=λvs H Q E h=>by
  obtain⟨B,ds,d,b,M,i,e,q⟩:=h;unfold aE at e;split at e
  ·rename_i hl;rw[i.length];exact hl
  ·cases e
 refine F.ok S len λcW A outer s H vs Q E U h=>⟨_,hb cW A outer s H E U,?_⟩;have G:=len vs H Q E h;obtain⟨B,ds,d,b,M,i,e,q⟩:=h;unfold aE at e;rw[if_pos (by rw[<-i.length];exact G)]at e;have O:=qK (N:=N) M.1 M.2 i;rw[G]at O;split at e
 ·rename_i d' m T;cases e
  exact⟨B,H,_,_,⟨B,O⟩,T,λv H' N' a c j=>q v H' N' a c j⟩
 ·rename_i ρ' T;cases e
  exact⟨B,H,_,_,⟨B,O⟩,T,λl H' ⟨N',s'⟩=>q .non H' N' s'.ext .non (by simp)⟩
 ·cases e
structure Fn (P:Program)(w:World)(K:Frag)(mg:Str->Option Value)(base:Heap)(k:Nat)(x:Str)(f:List D->OB):Prop where
 ex:∃(ad:Addr)(fd:FuncData)(ps:List Str),nW P w K mg base xZ k ad fd ps (F8 K f)/\mg x=some (.ref ad)/\PySem.W.keepIn K (.ref ad)=true/\oZ K fd ps []
def Fn.mono (F:Fn P w K mg base j x f)(h:j<=k):Fn P w K mg base k x f:=by
 obtain⟨ad,fd,ps,G,h2⟩:=F.ex;exact⟨ad,fd,ps,G.mono h,h2⟩
end
def BU (F:Fn X.prog X.w X.K X.mg X.base k x f)(T:eV k X.A)(ha:JA X (e::es) fa)(U:Gl X x:=by rfl)
  (G:(x == ("__debug__" : Str))=false:=by decide) (he:starEach (e::es) X.env=(false,eval e X.env)::starEach es X.env:=by rfl) (M:(backTo pos (starEach es X.env)).any (·.1)=false:=by rfl):
  JE X (.Call (.Name x p) (e::es) [] pos) (fA f fa):=by
 obtain⟨ad,fd,ps,a,hm,hk,hb⟩:=F.ex;refine PE.to (IB a T U hm hk hb .nil OX ha G he M) λσ H Q q=>?_;obtain⟨B,ρ,d,b,s,r,e,q⟩:=q;obtain⟨ds,ex,e⟩:=oX e;exact⟨B,ρ,ds,s,r,ex,λvs c N1 O i1=>by
  show F8 X.K f (vs++[]) c Q _;rw[uQ];exact⟨N1,ds,d,b,⟨O.nh,r.tb.mono O.bn⟩,i1,e,q.into O⟩⟩
mutual
@[simp] def cV:D->D->Bool
 |.non,.non=>true
 |.bl a,.bl b=>a == b
 |.bl a,.int b=>decide ((if a then 1 else 0)=b)
 |.int a,.bl b=>decide (a=(if b then 1 else 0))
 |.int a,.int b=>decide (a=b)
 |.str a,.str b=>decide (a=b)
 |.tup xs,.tup ys=>gb xs ys
 |.lst xs,.lst ys=>gb xs ys
 |_,_=>false
@[simp] def gb:LD->LD->Bool
 |[],[]=>true
 |x::xs,y::ys=>cV x y && gb xs ys
 |_,_=>false
end
@[simp] def ph (a:Str)(b:Str):cV (.str a) (.str b)=decide (a=b):=by simp only[cV]
@[simp] noncomputable def aH:Nat->D->Bool
 |_,.non=>true
 |_,.bl _=>true
 |_,.int _=>true
 |_,.str _=>true
 |_,.ty _=>false
 |_,.dk _ _=>false
 |_,.dt _ _=>false
 |0,.tup _=>false
 |0,.lst _=>false
 |n+1,.tup ds=>ds.all (aH n)
 |n+1,.lst ds=>ds.all (aH n)
theorem yx:∀ {xs ys:LD},gb xs ys=true->xs.length=ys.length
 |[],[],_=>rfl
 |x::xs,y::ys,h=>by
  simp only[gb,vC]at h;rw[vE,vE,yx h.2]
 |[],_::_,h=>by simp[gb]at h
 |_::_,[],h=>by simp[gb]at h
def wS (h:xs.length≠ys.length):gb xs ys=false:=by
 cases e:gb xs ys with
 |false=>rfl
 |true=>exact absurd (yx e) h
theorem jG (f:Nat->Bool):∀ {xs ys:LD},xs.length=ys.length->(∀(j:Nat) x y,xs[j]? = some x->ys[j]? = some y->f j=cV x y)->(List.range xs.length).all f=gb xs ys
 |[],[],_,_=>by simp[gb]
 |x::xs,y::ys,hl,h=>by
  have e:=jG (λj=>f (j+1)) (xs:=xs) (ys:=ys) (by simpa using hl) λj a b h1 h2=>h (j+1) a b (by simpa using h1) (by simpa using h2);rw[vE,List.range_succ_eq_map,all_cons,List.all_map,gb,<-h 0 x y rfl rfl,<-e];rfl
 |[],_::_,hl,_=>by simp at hl
 |_::_,[],hl,_=>by simp at hl
section
variable {X:Cx}{ah:AO}{σ:St}{H:Hp}{s:Shared}
def BV (I:Inv X ah σ H s)(h1:iP X.K H a vs)(h2:gN X.K H a T):False:=by
 obtain⟨its,_,⟨o,e,c,_⟩,_⟩:=I.tuple h1;obtain⟨its',_,⟨o',O,G,M,_⟩,_⟩:=I.list h2;rw[e]at G;cases G;rw[c]at M;injection M with z;exact absurd z (by decide)
def BW (I:Inv X ah σ H s)(e:s.heap.get? a=some o)(d:o.data=.seq its n):(∀aK ob,H a≠some (.dK aK ob))/\∀aK,H a≠some (.dT aK):=by
 refine⟨λaK ob h=>?_,λaK h=>?_⟩
 ·obtain⟨_,_,_,_,_,o',es,M,G,_,d',_⟩:=(show bI X.prog X.w H s.heap a (.dK aK ob)from I.hok a _ h);rw[e]at G;cases G;rw[d]at d';cases d'
 ·obtain⟨_,_,_,_,o',es,M,G,_,d',_⟩:=(show bI X.prog X.w H s.heap a (.dT aK)from I.hok a _ h);rw[e]at G;cases G;rw[d]at d';cases d'
def yy (I:Inv X ah σ H s)(h1:iP X.K H a vs):(∀aK ob,H a≠some (.dK aK ob))/\∀aK,H a≠some (.dT aK):=by
 obtain⟨its,_,⟨o,e,c,n,d⟩,_⟩:=I.tuple h1;exact BW I e d
def yz (I:Inv X ah σ H s)(h1:gN X.K H a vs):(∀aK ob,H a≠some (.dK aK ob))/\∀aK,H a≠some (.dT aK):=by
 obtain⟨its,_,p,_⟩:=I.list h1;obtain⟨o,e,c,n,d⟩:=p.isList;exact BW I e d
def BX (I:Inv X ah σ H s):∀(n:Nat){v:V}{d d':D},Is X.K H v d->Is X.K H v d'->aH n d=true->cV d d'=true:=by
 have G:∀ {p:D->Bool}(O:∀ {v:V}{d d':D},Is X.K H v d->Is X.K H v d'->p d=true->cV d d'=true) {vs:LV}{ds M:LD},IsL X.K H vs ds->IsL X.K H vs M->ds.all p=true->gb ds M=true:=by
  intro p O vs;induction vs with
  |nil=>intro ds M h h' _;cases h;cases h';simp[gb]
  |cons v vs T=>
   intro ds M h h' hp;cases h with
   |cons h1 h2=>
    cases h' with
    |cons h3 h4=>
     rw[all_cons,vC]at hp;rw[gb,O h1 h3 hp.1,T h2 h4 hp.2];rfl
 intro n;induction n with
 |zero=>
  intro v d d' h h' hp;cases h<;>cases h'<;>first|(simp[aH]at hp;done)|simp[cV]
 |succ n O=>
  intro v d d' h h' hp;cases h with
  |tup h1 h2=>
   cases h' with
   |tup h3 h4=>
    rw[I.tuple_inj h3 h1]at h4;rw[cV];exact G O h2 h4 (by simpa [aH]using hp)
   |lst h3 h4=>exact(BV I h1 h3).elim
   |dk h3 _ _=>exact((yy I h1).1 _ _ h3).elim
   |dt h3 _ _=>exact((yy I h1).2 _ h3).elim
  |lst h1 h2=>
   cases h' with
   |lst h3 h4=>
    rw[I.list_inj h3 h1]at h4;rw[cV];exact G O h2 h4 (by simpa [aH]using hp)
   |tup h3 h4=>exact(BV I h3 h1).elim
   |dk h3 _ _=>exact((yz I h1).1 _ _ h3).elim
   |dt h3 _ _=>exact((yz I h1).2 _ h3).elim
  |ty=>simp[aH]at hp
  |dk=>simp[aH]at hp
  |dt=>simp[aH]at hp
  |_=>cases h'<;>simp[cV]
def Lg {α:Type}{p:α->Bool}{l:List α}{j:Nat}{x:α}(h:l.all p=true)(e:l[j]? = some x):p x=true:=uR h x (vL e)
def y0 {A:Around}{p:D->Bool}(e:∀ {O T:V}{d1 d2:D}{U a:Value},p d1=true->p d2=true->Is X.K H O d1->Is X.K H T d2->bf O U->bf T a->SeqAt.EqAt A s U a (cV d1 d2))
  {vs M:LV}{ds es:LD}{its G:LU}(i1:IsL X.K H vs ds) (i2:IsL X.K H M es) (b:bq vs its) (c:bq M G) (f:ds.all p=true) (p2:es.all p=true):
  ∀j (h1:j<its.toArray.size) (h2:j<G.toArray.size),SeqAt.EqAt A s its.toArray[j] G.toArray[j] (cV (ds.getD j .non) (es.getD j .non)):=by
 intro j h1 h2;rw[vH]at h1 h2;have l1:=b.length;have l2:=c.length;have F:=i1.length;have I:=i2.length;have hv:j<vs.length:=by omega
 have hw:j<M.length:=by omega
 have hd:j<ds.length:=by omega
 have he:j<es.length:=by omega
 obtain⟨u,g,h⟩:=b.get (i:=j) (x:=vs[j]) (by simp[hv]);obtain⟨k,e2,l⟩:=c.get (i:=j) (x:=M[j]) (by simp[hw]);obtain⟨v,m,n⟩:=i1.get (i:=j) (d:=ds[j]) (by simp[hd]);obtain⟨w,o,q⟩:=i2.get (i:=j) (d:=es[j]) (by simp[he]);have r:its.toArray[j]=u:=by have z:=(vV g).2;simpa using z
 have t:G.toArray[j]=k:=by have z:=(vV e2).2;simpa using z
 have y:vs[j]=v:=by simpa [hv]using m
 have B:M[j]=w:=by simpa [hw]using o
 have C:ds.getD j .non=ds[j]:=by simp[List.getD,hd]
 have E:es.getD j .non=es[j]:=by simp[List.getD,he]
 rw[r,t,C,E];exact e (Lg f (j:=j) (by simp[hd])) (Lg p2 (j:=j) (by simp[he])) (y ▸ n) (B ▸ q) h l
def wT {xs ys:LD}(j:Nat)(x y:D)(h1:xs[j]? = some x)(h2:ys[j]? = some y):cV (xs.getD j .non) (ys.getD j .non)=cV x y:=by
 simp[List.getD,h1,h2]
abbrev RW (A:Around)(s:Shared)(G M:Value)(b:Bool):Prop:=SeqAt.RcAt A s G M b/\SeqAt.EqAt A s G M b/\SeqAt.RcNeAt A s G M (!b)
def BY {G M:Addr}(rc:SeqAt.RcAt A s (.ref G) (.ref M) b)(O:SeqAt.RcNeAt A s (.ref G) (.ref M) (!b))(h:G=M->b=true):RW A s (.ref G) (.ref M) b:=by
 refine⟨rc,?_,O⟩;by_cases ha:G=M
 ·subst ha;rw[h rfl];exact SeqAt.EqAt.same _
 ·exact SeqAt.EqAt.of_refs ha rc
def y4 (O:aH 0 d1=true)(p2:aH 0 d2=true)(i1:Is X.K H T d1)(i2:Is X.K H U d2)(M:bf T u1)(G:bf U u2):RW A s u1 u2 (cV d1 d2):=by
 cases i1 with
 |non=>
  cases M
  cases i2 with
  |non=>cases G;rw[cV];exact⟨.none_none,.same _,.none_none⟩
  |bl b=>cases G;simp only[cV];exact⟨.none_bool _,.none_bool _,.none_bool _⟩
  |int b=>obtain⟨t',rfl⟩:=G;simp only[cV];exact⟨.none_int _ _,.none_int _ _,.none_int _ _⟩
  |str b=>obtain⟨t',rfl⟩:=G;simp only[cV];exact⟨.none_str _ _,.none_str _ _,.none_str _ _⟩
  |_=>simp at p2
 |bl a=>
  cases M
  cases i2 with
  |non=>cases G;simp only[cV];exact⟨.bool_none _,.bool_none _,.bool_none _⟩
  |bl b=>cases G;rw[cV];exact⟨.bool_bool _ _,.bool_bool _ _,.bool_bool _ _⟩
  |int b=>obtain⟨t',rfl⟩:=G;rw[cV,<-beq_eq_decide_eq];exact⟨.bool_int _ _ _,.bool_int _ _ _,.bool_int _ _ _⟩
  |str b=>obtain⟨t',rfl⟩:=G;simp only[cV];exact⟨.bool_str _ _ _,.bool_str _ _ _,.bool_str _ _ _⟩
  |_=>simp at p2
 |int a=>
  obtain⟨t,rfl⟩:=M;cases i2 with
  |non=>cases G;simp only[cV];exact⟨.int_none _ _,.int_none _ _,.int_none _ _⟩
  |bl b=>cases G;rw[cV,<-beq_eq_decide_eq];exact⟨.int_bool _ _ _,.int_bool _ _ _,.int_bool _ _ _⟩
  |int b=>obtain⟨t',rfl⟩:=G;rw[cV,<-beq_eq_decide_eq];exact⟨.int_int _ _ _ _,.int_int _ _ _ _,.int_int _ _ _ _⟩
  |str b=>obtain⟨t',rfl⟩:=G;simp only[cV];exact⟨.int_str _ _ _ _,.int_str _ _ _ _,.int_str _ _ _ _⟩
  |_=>simp at p2
 |str a=>
  obtain⟨t,rfl⟩:=M;cases i2 with
  |non=>cases G;simp only[cV];exact⟨.str_none _ _,.str_none _ _,.str_none _ _⟩
  |bl b=>cases G;simp only[cV];exact⟨.str_bool _ _ _,.str_bool _ _ _,.str_bool _ _ _⟩
  |int b=>obtain⟨t',rfl⟩:=G;simp only[cV];exact⟨.str_int _ _ _ _,.str_int _ _ _ _,.str_int _ _ _ _⟩
  |str b=>obtain⟨t',rfl⟩:=G;rw[cV,<-beq_eq_decide_eq];exact⟨.str_str _ _ _ _,.str_str _ _ _ _,.str_str _ _ _ _⟩
  |_=>simp at p2
 |_=>simp at O
def Lh (I:Inv X ah σ H s):∀(n:Nat){A:Around}{c d:V}{d1 d2:D}{f g:Value},A.units+n<cLine->aH n d1=true->aH n d2=true->Is X.K H c d1->Is X.K H d d2->bf c f->bf d g->RW A s f g (cV d1 d2):=by
 intro n;induction n with
 |zero=>exact λ_ b p2 i1 i2 T a=>y4 b p2 i1 i2 T a
 |succ n v=>
  intro A c d d1 d2 f g hu b p2 i1 i2 T a;have G:A.units<cLine:=by omega
  have u:∀ {c d:V}{d1 d2:D}{f g:Value},aH n d1=true->aH n d2=true->Is X.K H c d1->Is X.K H d d2->bf c f->bf d g->SeqAt.EqAt A.in1 s f g (cV d1 d2):=λb p2 i1 i2 T a=>(v (A:=A.in1) (by show A.units+1+n<cLine;omega) b p2 i1 i2 T a).2.1;by_cases f2:aH 0 d2=true
  ·by_cases f1:aH 0 d1=true
   ·exact y4 f1 f2 i1 i2 T a
   ·cases i1 with
    |tup h1 k1=>
     cases T
     obtain⟨its,U,M,h⟩:=I.tuple h1;cases i2 with
     |non=>cases a;simp only[cV];exact⟨.tuple_none M G,.tuple_none M G,.tuple_none M G⟩
     |bl=>cases a;simp only[cV];exact⟨.tuple_bool _ M G,.tuple_bool _ M G,.tuple_bool _ M G⟩
     |int=>obtain⟨t,rfl⟩:=a;simp only[cV];exact⟨.tuple_int _ _ M G,.tuple_int _ _ M G,.tuple_int _ _ M G⟩
     |str=>obtain⟨t,rfl⟩:=a;simp only[cV];exact⟨.tuple_str _ _ M G,.tuple_str _ _ M G,.tuple_str _ _ M G⟩
     |_=>simp at f2
    |lst h1 k1=>
     cases T
     obtain⟨its,U,M,h⟩:=I.list h1;replace M:=M.isList;cases i2 with
     |non=>cases a;simp only[cV];exact⟨.list_none M G,.list_none M G,.list_none M G⟩
     |bl=>cases a;simp only[cV];exact⟨.list_bool _ M G,.list_bool _ M G,.list_bool _ M G⟩
     |int=>obtain⟨t,rfl⟩:=a;simp only[cV];exact⟨.list_int _ _ M G,.list_int _ _ M G,.list_int _ _ M G⟩
     |str=>obtain⟨t,rfl⟩:=a;simp only[cV];exact⟨.list_str _ _ M G,.list_str _ _ M G,.list_str _ _ M G⟩
     |_=>simp at f2
    |_=>simp at f1 b
  ·cases i2 with
   |tup h2 k2=>
    cases a
    obtain⟨i,k,O,w⟩:=I.tuple h2;cases i1 with
    |tup h1 k1=>
     cases T
     obtain⟨its,U,M,h⟩:=I.tuple h1;rename_i m z es o vs ds;have he:=y0 (A:=A.in1) (p:=aH n) u k1 k2 U k (by simpa using b) (by simpa using p2);have q:((List.range (min its.toArray.size i.toArray.size)).all (λj=>cV (ds.getD j .non) (es.getD j .non)) && its.toArray.size == i.toArray.size)=cV (.tup ds) (.tup es):=by
      rw[cV,vH,vH,<-U.length,<-k.length,k1.length,k2.length];by_cases hl:ds.length=es.length
      ·rw[<-hl,Nat.min_self,beq_self_eq_true,Bool.and_true];exact jG _ hl λj x y r e2=>wT j x y r e2
      ·rw[wS hl,beq_eq_false_iff_ne.mpr hl,Bool.and_false]
     have rc:=SeqAt.RcAt.tuples M O G he;have l:=SeqAt.RcNeAt.tuples M O G he;rw[q]at rc l;exact BY rc l λe=>by subst e;exact BX I (n+1) (.tup h1 k1) (.tup h2 k2) b
    |lst h1 k1=>cases T;obtain⟨its,U,M,h⟩:=I.list h1;simp only[cV];exact⟨.list_tuple M.isList O G,.list_tuple M.isList O G,.list_tuple M.isList O G⟩
    |non=>cases T;simp only[cV];exact⟨.none_tuple O G,.none_tuple O G,.none_tuple O G⟩
    |bl=>cases T;simp only[cV];exact⟨.bool_tuple _ O G,.bool_tuple _ O G,.bool_tuple _ O G⟩
    |int=>obtain⟨t,rfl⟩:=T;simp only[cV];exact⟨.int_tuple _ _ O G,.int_tuple _ _ O G,.int_tuple _ _ O G⟩
    |str=>obtain⟨t,rfl⟩:=T;simp only[cV];exact⟨.str_tuple _ _ O G,.str_tuple _ _ O G,.str_tuple _ _ O G⟩
    |_=>simp at b
   |lst h2 k2=>
    cases a
    obtain⟨i,k,O,w⟩:=I.list h2;replace O:=O.isList;cases i1 with
    |lst h1 k1=>
     cases T
     obtain⟨its,U,M,h⟩:=I.list h1;replace M:=M.isList;rename_i m z es o vs ds;have he:=y0 (A:=A.in1) (p:=aH n) u k1 k2 U k (by simpa using b) (by simpa using p2);have both:SeqAt.RcAt A s (.ref o) (.ref m) (cV (.lst ds) (.lst es))/\SeqAt.RcNeAt A s (.ref o) (.ref m) (!cV (.lst ds) (.lst es)):=by
      have hz:its.toArray.size=ds.length/\i.toArray.size=es.length:=by rw[vH,vH,<-U.length,<-k.length,k1.length,k2.length];exact⟨rfl,rfl⟩
      by_cases hl:ds.length=es.length
      ·have q:(List.range its.toArray.size).all (λj=>cV (ds.getD j .non) (es.getD j .non))=cV (.lst ds) (.lst es):=by
        rw[cV,hz.1];exact jG _ hl λj x y r e2=>wT j x y r e2
       have hs:=(hz.1.trans hl).trans hz.2.symm;have rc:=SeqAt.RcAt.lists M O hs G he;have l:=SeqAt.RcNeAt.lists M O hs G he;rw[q]at rc l;exact⟨rc,l⟩
      ·have hs:(its.toArray.size != i.toArray.size)=true:=by rw[hz.1,hz.2];exact bne_iff_ne.mpr hl
       rw[cV,wS hl];exact⟨.lists_lengths M O hs G,.lists_lengths M O hs G⟩
     exact BY both.1 both.2 λe=>by subst e;exact BX I (n+1) (.lst h1 k1) (.lst h2 k2) b
    |tup h1 k1=>cases T;obtain⟨its,U,M,h⟩:=I.tuple h1;simp only[cV];exact⟨.tuple_list M O G,.tuple_list M O G,.tuple_list M O G⟩
    |non=>cases T;simp only[cV];exact⟨.none_list O G,.none_list O G,.none_list O G⟩
    |bl=>cases T;simp only[cV];exact⟨.bool_list _ O G,.bool_list _ O G,.bool_list _ O G⟩
    |int=>obtain⟨t,rfl⟩:=T;simp only[cV];exact⟨.int_list _ _ O G,.int_list _ _ O G,.int_list _ _ O G⟩
    |str=>obtain⟨t,rfl⟩:=T;simp only[cV];exact⟨.str_list _ _ O G,.str_list _ _ O G,.str_list _ _ O G⟩
    |_=>simp at b
   |_=>simp at f2 p2
@[simp] def dw:D->D->OB:=λx y=>if aH 40 x=true/\aH 40 y=true then some (.bl (cV x y),false)else none
@[simp] def tO:D->D->OB:=λx y=>if aH 40 x=true/\aH 40 y=true then some (.bl (!cV x y),false)else none
def cz (hu:X.A.units+40<cLine):dI X (compareOp .Eq) (rD X.K dw):=by
 intro ah s σ H x y v u Q I M O q;obtain⟨B,dx,a,d,b,G,T,U,e,q⟩:=q;unfold dw at e;split at e
 ·rename_i hp;cases e
  exact(Lh I 40 hu hp.1 hp.2 (T.mono G) (U.mono G) M O).1 _ _ _ _ ⟨.bl _,H,I,rfl,q.one G (.bl _)⟩
 ·cases e
def wU (hu:X.A.units+40<cLine):dI X (compareOp .NotEq) (rD X.K tO):=by
 intro ah s σ H x y v u Q I M O q;obtain⟨B,dx,a,d,b,G,T,U,e,q⟩:=q;unfold tO at e;split at e
 ·rename_i hp;cases e
  exact(Lh I 40 hu hp.1 hp.2 (T.mono G) (U.mono G) M O).2.2 _ _ _ _ ⟨.bl _,H,I,rfl,q.one G (.bl _)⟩
 ·cases e
end
section
variable {X:Cx}{a b e:Expr}{pos:Pos}
def BZ {K:Frag}{H:Hp}{vs:LV}{ds:LD}{i:Int}{d:D}(h:IsL K H vs ds)(e:mH ds i=some d):∃v,mH vs i=some v/\Is K H v d:=by
 unfold mH at e |-;rw[h.length];cases q:Fi ds.length i with
 |none=>rw[q]at e;cases e
 |some j=>rw[q]at e;exact h.get e
@[simp] def bF:D->D->OB
 |.lst ds,.int i=>(mH ds i).map λd=>(d,false)
 |.tup ds,.int i=>(mH ds i).map λd=>(d,false)
 |.str z,.int i=>if z.length<=sizeLine then (mH z.cps.toList i).map λc=>(.str ⟨#[c]⟩,false)else none
 |_,_=>none
def RX:Fj X (rD X.K bF):=by
 intro G M ah s σ H x y v u Q I U f q hs;obtain⟨B,dx,k,d,b,O,g,j,e,q⟩:=q;cases g<;>try (cases e;done)
 all_goals (cases j<;>try (cases e;done))
 ·simp only[bF]at e;split at e
  ·rename_i hz;obtain⟨c,T,e2⟩:=oY e;cases e2
   exact Fm G M ah s σ H _ _ v u Q I U f ⟨_,_,c,rfl,rfl,hz,T,q.one O (.str _)⟩ hs
  ·cases e
 ·rename_i h hl i;simp only[bF]at e;obtain⟨c,T,e2⟩:=oY e;cases e2
  obtain⟨w,h1,h2⟩:=BZ hl T;exact Fl G M ah s σ H _ _ v u Q I U f ⟨_,_,_,w,rfl,rfl,b7 O h,h1,q.one O h2⟩ hs
 ·rename_i h hl i;simp only[bF]at e;obtain⟨c,T,e2⟩:=oY e;cases e2
  obtain⟨w,h1,h2⟩:=BZ hl T;exact IK G M ah s σ H _ _ v u Q I U f ⟨_,_,_,w,rfl,rfl,O.seq h,h1,q.one O h2⟩ hs
def bd (ha:JE X a fa)(hb:JE X b G)(hs:mI b:=by intro _ _;rfl):JE X (.Subscript a b pos) (f2 bF fa G):=PE.to (Fk RX ha hb hs) λ_ _ _ h=>IN h
abbrev FO:=Env->Option OI
def VB (K:Frag)(f:FO):TO:=λσ H Q=>∃(B:Hp)(ρ:Env)(o:OI),aU B H/\ga K B σ ρ/\f ρ=some o/\∀H',aU H H'->Q o H'
abbrev JO (X:Cx)(e:Option Expr)(f:FO):Prop:=PO X e (VB X.K f)
@[simp] noncomputable def eZ:FO:=λ_=>some none
@[simp] noncomputable def cY (f:FE):FO:=λρ=>match f ρ with|some (.int i,_)=>some (some i)|_=>none
def hJ:JO X none eZ:=λah s σ H Q I h=>IF ah s σ H Q I (by
 obtain⟨B,ρ,o,G,r,e,q⟩:=h;cases e
 exact q H (.refl H))
def fP (h:JE X e f):JO X (some e) (cY f):=λah s σ H Q I q=>IG h ah s σ H Q I (by
 obtain⟨B,ρ,o,G,r,e,q⟩:=q;unfold cY at e;split at e
 ·rename_i i U M;cases e
  refine⟨B,ρ,_,_,G,r,M,λv O N1 T i1 _=>?_⟩;cases i1
  exact⟨i,rfl,q O T.hh⟩
 ·cases e)
def iQ (ds:LD)(lo hi:OI):LD:=(ds.drop (HT.dS ds.length 0 lo)).take (HT.dS ds.length ds.length hi - HT.dS ds.length 0 lo)
def wV {K:Frag}{H:Hp}{vs:LV}{ds:LD}{lo hi:OI}(h:IsL K H vs ds):IsL K H (tJ vs lo hi) (iQ ds lo hi):=by
 unfold tJ iQ;rw[h.length];exact(h.drop _).take _
def cr.to (h:cr X f r)(k:∀xs H Q,M xs H Q->r xs H Q):cr X f M:=λah s σ H xs us Q I G q=>h ah s σ H xs us Q I G (k xs H Q q)
variable {es:QD}{x:Str}{p:Pos}{id T:String}
def aI (hc:cr X (.builtin id) (BQ X.K f))(hm:X.mg x=none)(hv:bootBuiltins x=some (.builtin id))(ha:JA X (e::es) fa)(O:Gl X x:=by rfl)(hn:x ≠ "__name__":=by decide)(G:(x == ("__debug__" : Str))=false:=by decide)
  (he:starEach (e::es) X.env=(false,eval e X.env)::starEach es X.env:=by rfl) (M:(backTo pos (starEach es X.env)).any (·.1)=false:=by rfl):JE X (.Call (.Name x p) (e::es) [] pos) (fA f fa):=PE.to (qB hc O hm hv ha hn G he M) λ_ _ _ h=>IP h
def om (hc:cr X (.type T) (BQ X.K f))(hm:X.mg x=none)(hv:bootBuiltins x=some (.type T))(ha:JA X (e::es) fa)(O:Gl X x:=by rfl)(hn:x ≠ "__name__":=by decide)(G:(x == ("__debug__" : Str))=false:=by decide)
  (he:starEach (e::es) X.env=(false,eval e X.env)::starEach es X.env:=by rfl) (M:(backTo pos (starEach es X.env)).any (·.1)=false:=by rfl):JE X (.Call (.Name x p) (e::es) [] pos) (fA f fa):=PE.to (oi hc O hm hv ha hn G he M) λ_ _ _ h=>IP h
@[simp] noncomputable def dJ:LD->OB
 |[.lst ds]=>some (.int ds.length,false)
 |[.tup ds]=>some (.int ds.length,false)
 |[.str z]=>if z.length<=sizeLine then some (.int z.length,false)else none
 |_=>none
def fg:cr X (.builtin "len") (BQ X.K dJ):=by
 refine cr.to (cr.or wG wH) λxs H Q q=>?_;obtain⟨B,ds,d,b,G,i,e,q⟩:=q;cases i with
 |nil=>simp[dJ]at e
 |cons i1 i2=>
  cases i2 with
  |cons _ _=>cases i1<;>simp[dJ]at e
  |nil=>
   cases i1<;>try (simp[dJ]at e;done)
   ·simp only[dJ]at e;split at e
    ·rename_i hz;cases e
     exact .inr ⟨_,rfl,hz,q.one G (.int _)⟩
    ·cases e
   ·rename_i h hl;simp only[dJ]at e;cases e
    refine .inl ⟨_,_,rfl,.inr (b7 G h),?_⟩;rw[hl.length];exact q.one G (.int _)
   ·rename_i h hl;simp only[dJ]at e;cases e
    refine .inl ⟨_,_,rfl,.inl (G.seq h),?_⟩;rw[hl.length];exact q.one G (.int _)
def jr (hm:X.mg x=none)(hv:bootBuiltins x=some (.type n))(G:Gl X x:=by rfl)(hn:x ≠ "__name__":=by decide)(hd:(x == ("__debug__" : Str))=false:=by decide):JE X (.Name x pos) (fC (.ty n)) :=
 PE.to (Ip G hm hv (v:=.ty n) rfl hn hd) λ_ _ _ h=>DI (λ_=>.ty n) h
end
def DJ (G:eV k A):A.units+40<cLine:=by have:=G.un;omega
section
variable {X:Cx}{a b e:Expr}{pos:Pos}{x:Str}{p:Pos}
def cZ (h:∃u v,X.mg x=some u/\bf v u/\∀B,Is X.K B v d)(G:Gl X x:=by rfl)(hd:(x == ("__debug__" : Str))=false:=by decide):JE X (.Name x pos) (fC d):=by
 obtain⟨u,v,hm,r,i⟩:=h;exact Ja G hm r i hd
@[simp] noncomputable def Ca:D->D->OB
 |.int i,.int j=>some (.int (i+j),false)
 |.str i,.str j=>if i.length+j.length<=sizeLine then some (.str (i++j),false)else none
 |_,_=>none
def Jg:dI X (binaryOp .Add) (rD X.K Ca):=by
 refine jg (r:=rD X.K (EN MA Jd)) (oj Pj MC) λx y H Q q=>?_;obtain⟨B,dx,G,d,b,M,O,T,e,q⟩:=q;refine⟨B,dx,G,d,b,M,O,T,?_,q⟩;cases dx<;>try (cases e;done)
 all_goals (cases G<;>try (cases e;done))
 all_goals (simp[Ca]at e;simp[EN,MA,Jd,Au,Oh,e])
@[simp] def tP:D->D->OB:=Pg
def oq:dI X (binaryOp .Mult) (rD X.K tP):=Pk
@[simp] def EO:D->D->OB:=Ue
def pi:dI X (compareOp .Lt) (rD X.K EO):=RU
@[simp] noncomputable def qL:D->D->OB
 |.int i,.int j=>some (.bl (decide (i<=j)),false)
 |.str i,.str j=>some (.bl (!decide (j.cps.toList<i.cps.toList)),false)
 |_,_=>none
def gY:dI X (compareOp .LtE) (rD X.K qL):=by
 refine jg (r:=rD X.K (EN RT QW)) (oj RV Pm) λx y H Q q=>?_;obtain⟨B,dx,G,d,b,M,O,T,e,q⟩:=q;refine⟨B,dx,G,d,b,M,O,T,?_,q⟩;cases dx<;>try (cases e;done)
 all_goals (cases G<;>try (cases e;done))
 all_goals (simp[qL]at e;simp[EN,RT,QW,Au,Oh,e])
@[simp] noncomputable def y6:D->OB
 |.int i=>some (.int (-i),false)
 |_=>none
def Li:OH X (unaryOp .USub) (RQ X.K y6):=by
 intro ah s σ H x v Q I G q;obtain⟨B,dx,d,b,M,O,e,q⟩:=q;cases O<;>try (simp[y6]at e;done)
 simp only[y6]at e;cases e
 exact Mo ah s σ H _ v Q I G ⟨_,rfl,q.one M (.int _)⟩
@[simp] noncomputable def qM:D->D->Option Bool
 |.non,.non=>some true
 |_,.non=>some false
 |.bl a,.bl b=>some (a == b)
 |_,.bl _=>some false
 |_,_=>none
@[simp] def y7:D->D->OB:=λx y=>(qM x y).map λb=>(.bl b,false)
@[simp] def ky:D->D->OB:=λx y=>(qM x y).map λb=>(.bl (!b),false)
def Cb {K:Frag}{B:Hp}{x y:V}{v u:Value}{dx G:D}{k:Bool}(O:Is K B x dx)(T:Is K B y G)(M:bf x v)(U:bf y u)(e:qM dx G=some k):plainIs v u=true/\(v == u)=k:=by
 cases T<;>(first|(cases dx<;>simp[qM]at e;done)|skip)
 all_goals (cases O)
 all_goals (first|(obtain⟨t,rfl⟩:=M)|cases M)
 all_goals (cases U)
 all_goals (simp only[qM,Option.some.injEq]at e;subst e)
 all_goals (first|exact⟨rfl,rfl⟩|skip)
 all_goals (rename_i c d;cases c<;>cases d<;>exact⟨rfl,rfl⟩)
def wW:dI X (compareOp .Is) (rD X.K y7):=by
 intro ah s σ H x y v u Q I G M q;obtain⟨B,dx,c,d,b,O,T,U,e,q⟩:=q;obtain⟨k,ek,e⟩:=oY e;cases e
 obtain⟨h1,h2⟩:=Cb T U G M ek;refine wpAny_is_plain h1 ⟨.bl k,H,I,by rw[h2];rfl,q.one O (.bl _)⟩
def wZ:dI X (compareOp .IsNot) (rD X.K ky):=by
 intro ah s σ H x y v u Q I G M q;obtain⟨B,dx,c,d,b,O,T,U,e,q⟩:=q;obtain⟨k,ek,e⟩:=oY e;cases e
 obtain⟨h1,h2⟩:=Cb T U G M ek;refine wpAny_isNot_plain h1 ⟨.bl (!k),H,I,by rw[h2];rfl,q.one O (.bl _)⟩
@[simp] noncomputable def fQ:D->Bool
 |.non=>true|.bl _=>true|.int _=>true|.str _=>true
 |_=>false
noncomputable def AE (x:D)(ds:LD):Bool:=ds.any λy=>cV y x
@[simp] noncomputable def gd:D->Option LD
 |.lst ds=>some ds
 |.tup ds=>some ds
 |_=>none
@[simp] def AF:D->D->OB:=λx y=>(gd y).bind λds=>if fQ x=true/\ds.all fQ=true then some (.bl (AE x ds),false)else none
@[simp] def da:D->D->OB:=λx y=>(gd y).bind λds=>if fQ x=true/\ds.all fQ=true then some (.bl (!AE x ds),false)else none
def qN {K:Frag}{B:Hp}{v:V}{d:D}(i:Is K B v d)(h:fQ d=true):lM v=true:=by
 cases i<;>first|rfl|(simp[fQ]at h)
def RY {K:Frag}{B:Hp}{v w:V}{d e:D}(i:Is K B v d)(j:Is K B w e)(h:fQ d=true)(h':fQ e=true):Ic v w=cV d e:=by
 cases i<;>(first|(simp[fQ]at h;done)|skip)
 all_goals (cases j<;>(first|(simp[fQ]at h';done)|skip))
 all_goals (simp only[Ic,cV,beq_eq_decide_eq])
theorem y8 {K:Frag}{B:Hp}:∀ {vs:LV}{ds:LD},IsL K B vs ds->ds.all fQ=true->vs.all lM=true
 |_,_,.nil,_=>rfl
 |_,_,.cons i t,h=>by
  rw[all_cons,vC]at h;rw[all_cons,qN i h.1,y8 t h.2];rfl
theorem F9 {K:Frag}{B:Hp}{v:V}{d:D}(j:Is K B v d)(hd:fQ d=true):∀ {vs:LV}{ds:LD},IsL K B vs ds->ds.all fQ=true->QT v vs=AE d ds
 |_,_,.nil,_=>rfl
 |_,_,.cons i t,h=>by
  rw[all_cons,vC]at h;have e:=F9 j hd t h.2;unfold QT AE at *;rw[any_cons,any_cons,e,RY i j h.1 hd]
def ur:dI X (compareOp .In) (rD X.K AF):=by
 refine jg DA λx y H Q q=>?_;obtain⟨B,dx,T,d,b,G,M,O,e,q⟩:=q;obtain⟨ds,es,e⟩:=oX e;split at e
 ·rename_i hf;cases e
  cases O<;>simp only[gd]at es<;>try (cases es;done)
  ·rename_i h hl;cases es
   exact⟨_,_,rfl,.inr (b7 G h),qN M hf.1,y8 hl hf.2,by rw[if_neg (by decide),F9 M hf.1 hl hf.2];exact q.one G (.bl _)⟩
  ·rename_i h hl;cases es
   exact⟨_,_,rfl,.inl (G.seq h),qN M hf.1,y8 hl hf.2,by rw[if_neg (by decide),F9 M hf.1 hl hf.2];exact q.one G (.bl _)⟩
 ·cases e
def js:dI X (compareOp .NotIn) (rD X.K da):=by
 refine jg wF λx y H Q q=>?_;obtain⟨B,dx,T,d,b,G,M,O,e,q⟩:=q;obtain⟨ds,es,e⟩:=oX e;split at e
 ·rename_i hf;cases e
  cases O<;>simp only[gd]at es<;>try (cases es;done)
  ·rename_i h hl;cases es
   exact⟨_,_,rfl,.inr (b7 G h),qN M hf.1,y8 hl hf.2,by rw[if_pos rfl,F9 M hf.1 hl hf.2];exact q.one G (.bl _)⟩
  ·rename_i h hl;cases es
   exact⟨_,_,rfl,.inl (G.seq h),qN M hf.1,y8 hl hf.2,by rw[if_pos rfl,F9 M hf.1 hl hf.2];exact q.one G (.bl _)⟩
 ·cases e
def eM:bootBuiltins "len" = some (.builtin "len"):=PySem.boot_len
def bJ:bootBuiltins "isinstance" = some (.builtin "isinstance"):=by decide +kernel
def Po:bootBuiltins "max" = some (.builtin "max"):=by decide +kernel
def y9:bootBuiltins "all" = some (.builtin "all"):=by decide +kernel
def Lj:bootBuiltins "int" = some (.type "int"):=by decide +kernel
def ME:bootBuiltins "bool" = some (.type "bool"):=by decide +kernel
def FC:bootBuiltins "str" = some (.type "str"):=by decide +kernel
def FD:bootBuiltins "list" = some (.type "list"):=by decide +kernel
def iV:bootBuiltins "tuple" = some (.type "tuple"):=by decide +kernel
@[simp] noncomputable def FF:LD->OB
 |[.int i,.int j]=>some (.int (if j > i then j else i),false)
 |_=>none
def FH {K:Frag}{B:Hp}{xs:LV}{i j:Int}(h:IsL K B xs [.int i,.int j]):xs=[.int i,.int j]:=by
 cases h with
 |cons h1 h2=>cases h1;cases h2 with|cons h3 h4=>cases h3;cases h4;rfl
def Pp (hc:X.calm=true:=by rfl):cr X (.builtin "max") (BQ X.K FF):=by
 refine cr.to (D6 hc) λxs H Q q=>?_;obtain⟨B,ds,d,b,G,i,e,q⟩:=q;match ds,e with
 |[.int M,.int O],e=>simp only[FF]at e;cases e;exact⟨M,O,FH i,q.one G (.int _)⟩
@[simp] noncomputable def i6:D->String
 |.non=>"NoneType" | .bl _=>"bool" | .int _=>"int" | .str _=>"str" | .ty _=>"type" | .tup _=>"tuple" | .lst _=>"list" | .dk _ _=>"dict" | .dt _ _=>"dict"
@[simp] noncomputable def AG:D->Bool
 |.ty _=>true
 |_=>false
@[simp] noncomputable def Cc (t n:String):OB :=
 if n = "int" then some (.bl (t == "int" || t == "bool"),false)else if n = "bool" then some (.bl (t == "bool"),false)else if n = "str" then some (.bl (t == "str"),false)
 else if n = "list" then some (.bl (t == "list"),false)else if n = "tuple" then some (.bl (t == "tuple"),false)else none
@[simp] def bT:LD->OB
 |[d,.ty n]=>if AG d=true then none else Cc (i6 d) n
 |_=>none
def Jh {ah:AO}{σ:St}{H:Hp}{s:Shared}{A:Around}{E:QV}{Q:QV}{c:Value}{b:Bool}{v:V}{d:D}{u:Value}(I:Inv X ah σ H s)(i:Is X.K H v d)(hd:∀n,d≠.ty n)(G:bf v u)(e:PySem.W.kitOne X.K (.type (i6 d)) c=some b)(h:∀tk,Q (.bool b) { s with toks:=tk }):
  wpAny (model X.prog X.w) A (call (.builtin "isinstance") [u,c]) Q E s:=by
 cases i with
 |non=>exact ia I G .non e h
 |bl y=>exact ia I G (.bl y) e h
 |int y=>exact ia I G (.int y) e h
 |str y=>exact ia I G (.str y) e h
 |ty n=>exact absurd rfl (hd n)
 |dk h1 _ _=>exact ia I G (.dK h1) e h
 |dt h1 _ _=>exact ia I G (.dT h1) e h
 |tup M _=>
  cases G
  obtain⟨its,_,⟨o,h1,h2,_⟩,_⟩:=I.tuple M;exact kia_one PySem.W.kitx_tuple I.kIn ⟨o,h1,h2⟩ e (λz=>nomatch z) h
 |lst hl _=>
  cases G
  obtain⟨its,_,⟨o,n,h1,h2,_⟩,_⟩:=I.list hl;exact kia_one PySem.W.kitx_list I.kIn ⟨o,h1,h2⟩ e (λz=>nomatch z) h
def FI (K:Frag)(d:D)(hd:∀n,d≠.ty n):
  PySem.W.kitOne K (.type (i6 d)) (.type "int")=some (i6 d == "int" || i6 d == "bool")/\PySem.W.kitOne K (.type (i6 d)) (.type "bool")=some (i6 d == "bool")/\PySem.W.kitOne K (.type (i6 d)) (.type "str")=some (i6 d == "str") /\
   PySem.W.kitOne K (.type (i6 d)) (.type "list")=some (i6 d == "list")/\PySem.W.kitOne K (.type (i6 d)) (.type "tuple")=some (i6 d == "tuple"):=by
 cases d<;>(first|exact absurd rfl (hd _)|skip)
 all_goals (simp only[i6];refine⟨?_,?_,?_,?_,?_⟩<;>kernel_rfl)
def ca:cr X (.builtin "isinstance") (BQ X.K bT):=by
 intro ah s σ H xs us Q I M q;obtain⟨B,ds,d,b,G,i,e,q⟩:=q;cases i with
 |nil=>cases e
 |cons i1 i=>cases i with
 |nil=>cases e
 |cons i2 i=>
  cases i2<;>try (cases e;done)
  cases i<;>try (cases e;done)
  rename_i dx n;obtain⟨O,f,rfl,T,U⟩:=Fc M;cases U
  simp only[bT]at e;split at e
  ·cases e
  ·rename_i c;have hd:∀n,dx≠.ty n:=λn z=>by subst z;exact c rfl
   obtain⟨k1,k2,k3,k4,k5⟩:=FI X.K dx hd;have iO:∀ {k:Bool},PySem.W.kitOne X.K (.type (i6 dx)) (.type n)=some k->Fin X.K B H (.bl k) false Q->wq X (call (.builtin "isinstance") [O,.type n]) (EP X ah σ Q) X.xe s:=λ{k} hk q=>
    Jh I (i1.mono G) hd T hk λtk=>⟨.bl k,H,I.tok tk,rfl,q.one G (.bl k)⟩
   unfold Cc at e;split at e
   ·rename_i z;subst z;cases e;exact iO k1 q
   split at e
   ·rename_i z;subst z;cases e;exact iO k2 q
   split at e
   ·rename_i z;subst z;cases e;exact iO k3 q
   split at e
   ·rename_i z;subst z;cases e;exact iO k4 q
   split at e
   ·rename_i z;subst z;cases e;exact iO k5 q
   ·cases e
@[simp] def FJ (f:FE):FA:=λρ=>(f ρ).bind λx=>gd x.1
def Ce (h:JE X e f):JI X tg e (FJ f):=by
 intro ah s σ H R I q;obtain⟨B,ρ,ds,c,r,g,q⟩:=q;obtain⟨x,ex,es⟩:=oX g;obtain⟨xd,k⟩:=x;cases xd<;>simp only[gd]at es<;>try (cases es;done)
 ·cases es
  refine Mf h ah s σ H R I ⟨B,ρ,_,_,c,r,ex,λv U N1 O i1 _=>?_⟩;cases i1 with
  |@tup a vs _ M hl=>
   refine⟨a,rfl,⟨vs,b7 O.nh M⟩,q _ U N1 O λi H2 s2=>⟨λd ed=>?_,λG=>⟨vs,b7 s2 M,by rw[hl.length];exact G⟩⟩⟩;obtain⟨v,T,iv⟩:=hl.get ed;refine⟨⟨vs,v,b7 s2 M,T⟩,λy j hy=>?_⟩;obtain⟨rfl,hy⟩:=hy;have:=hy vs (b7 s2 M);rw[T]at this;cases this;exact⟨N1,.refl s2,iv⟩
 ·cases es
  refine Iv h ah s σ H R I ⟨B,ρ,_,_,c,r,ex,λv U N1 O i1 _=>?_⟩;cases i1 with
  |@lst a vs _ M hl=>
   refine⟨a,rfl,⟨vs,O.nh.seq M⟩,q _ U N1 O λi H2 s2=>⟨λd ed=>?_,λG=>⟨vs,s2.seq M,by rw[hl.length];exact G⟩⟩⟩;obtain⟨v,T,iv⟩:=hl.get ed;refine⟨⟨vs,v,s2.seq M,T⟩,λy j hy=>?_⟩;obtain⟨rfl,hy⟩:=hy;have:=hy vs (s2.seq M);rw[T]at this;cases this;exact⟨N1,.refl s2,iv⟩
noncomputable def jH (lo:Int)(n:Nat):LD:=(List.range n).map λ(k:Nat)=>.int (lo+(k:Int))
def FK {K:Frag}{B:Hp}(lo:Int)(n:Nat):mO K (QR lo n) B (jH lo n):=by
 intro i H s;unfold jH;refine⟨λd ed=>?_,λhl=>by rw[vI,length_range]at hl;exact hl⟩;rw[vA]at ed;obtain⟨k,ek,ed⟩:=oY ed;have hk:=vV ek;obtain⟨G,hk⟩:=hk;rw[length_range]at G;rw[List.getElem_range]at hk;subst hk;subst ed;refine⟨G,λx H' hy=>?_⟩;obtain⟨rfl,rfl⟩:=hy;exact⟨B,.refl s,.int _⟩
@[simp] def ot (f:FE):FA:=λρ=>match f ρ with
 |some (.int j,_)=>if -1000<=j/\j<=1000 then some (jH 0 j.toNat)else none
 |_=>none
def yA (hm:X.mg "range" = none)(h:JE X a f)(M:Gl X "range":=by rfl)(hs:starEach [a] X.env=[(false,eval a X.env)]:=by rfl):PI X tg (.Call (.Name "range" p) [a] [] pos) (QU X.K (ot f)):=by
 refine PI.to (D3 M hm (ai h ao hs) hs) λσ H R q=>?_;obtain⟨B,ρ,ds,O,r,G,q⟩:=q;unfold ot at G;split at G
 ·rename_i j d T;split at G
  ·rename_i hj;cases G
   refine⟨B,ρ,[.int j],O,r,by simp[ag,aj,T],λvs U N1 c i1=>?_⟩;cases i1 with
   |cons i1 i2=>
    cases i1;cases i2
    exact⟨j,rfl,by omega,by omega,q _ U N1 c λ_=>FK 0 j.toNat⟩
  ·cases G
 ·cases G
end
def cJ (K:Frag)(x:Str)(st:Stmt):Prop:=∃(f:Addr)(fd:FuncData),NJ K x x st f fd/\nsIn K mainGlobals x=some (some (.ref f))
def def_mk {K:Frag}{x:Str}{st:Stmt}{f:Addr}{oc:Value}{od an:Option Addr}{lI:Array (Option Value)}{kV doc pm cW ct:Value}(a:nsIn K mainGlobals x=some (some (.ref f)))
  (l:K.lookup f=some ⟨oc,od,.func (fnOf x x (dN st) (cf st) (aJ st) .none kV doc pm an cW ct),lI⟩) (c:PySem.W.codeIn K cW x=true) (k:PySem.W.keepIn K (.ref f)=true):cJ K x st:=⟨f,_,Mw l c k,a⟩
section
variable {P:Program}{w:World}{K:Frag}{mg:SV}{base:Heap}
def cJ.fn {x:Str}{st:Stmt}{N ps:LS}{k:Nat}{g:FS}{h:Heap}(F:cJ K x st)(X:K.In h)(G:h.Ns mainGlobals mg)(S:FnScope N ps (aJ st))
  (M:∀(kV doc pm:Value)(an:Option Addr)(cW ct:Value)(us:LU),us.length=ps.length->bindArgs (fnOf x x (dN st) (cf st) (aJ st) .none kV doc pm an cW ct) ⟨us,[]⟩=pure (ps.zip us))
  (hb:∀(f:Addr)(cW:Value)(A:Around)(outer:List PySem.Env)(s:Shared)(H:Hp)(E:XK),eV k (A.deeper (envOfC x (aJ st) s.z f cW))->um (oh xZ P w K mg base N x (aJ st) f cW A outer s H E).nox (cf st) g):
  Fn P w K mg base (k+1) x (aE g ps.length (N.length - ps.length)):=by
 obtain⟨f,fd,O,a⟩:=F;exact⟨f,fd,ps,Pn O S (hb f),mg_of X G a,O.kp,O.binds M⟩
end
def Pq (H:Hp):Prop:=∀b,H b=none\/(∃o xs,H b=some (.frz o (.lst xs)))\/∃q,H b=some (.tbl q)
noncomputable def qO (M:List (Addr×Str))(G:Hp):Hp:=λb=>match M.lookup b with|some q=>some (.tbl q)|none=>G b
def gF (e:M.lookup b=some q):qO M G b=some (.tbl q):=by unfold qO;rw[e]
def jt (e:M.lookup b=none):qO M G b=G b:=by unfold qO;rw[e]
def DK {P:Program}{w:World}{K:Frag}{mg mb:SV}{k:Nat}{fa a:Addr}{fd:FuncData}{x:Str}{sp:Sp}{M:Shared}{vs:LU}{ns:LI}(O:List (Addr×Str))
  (i:∀b q,O.lookup b=some q->M.heap.get? b=some (PySem.W.tabObj #[])/\isCodeTable M.heap b) (L:PySem.W.noTabs K=true)
  (y:K.In M.heap) (B:M.heap.Ns mainGlobals mg) (hb:M.heap.Ns builtinsNs mb) (N:∀x:Str,x ≠ "__name__"->mb x=bootBuiltins x) (Q:M.heap.NoLimit)
  (R:∃bm ob,mg "__builtins__" = some (.ref bm)/\bm≠builtinsNs/\M.heap.get? bm=some ob/\ob.cls=.type "module"/\ob.dict=some builtinsNs/\ob.data=.plain) (S:M.gens=#[])
  (ha:M.heap.get? a=some { cls:=.type "list",data:=.seq vs.toArray }) (hi:IntsAre vs ns) (hl:ns.length<=sizeLine) (X:eV k callerA)
  (F:∀base:Heap,K.In base->base.Ns mainGlobals mg->nW P w K mg base xZ k fa fd [x] sp) (Y:∀(s:Shared)(u:Value),BindsTo s fd ⟨[u],[]⟩ [(x,u)])
  (Z:∀H:Hp,(∀b q,O.lookup b=some q->H b=some (.tbl q))->gN K H a (ns.map V.int)->sp [.ref a] H (λv _=>v=.bl true) λ_ _ _=>False):
  codeAny (model P w) callerA (.call (.ref fa) ⟨[.ref a],[]⟩) (λr s'=>r=.ok (.ret (.bool true))/\OldK M.heap s'.heap/\s'.os=M.os/\AllBare s'.gens) M:=by
 have C:=L2.ib hi;have SO:=hi.length;have D:∀H:Hp,Pq H->(∀b q,O.lookup b=some q->H b=some (.tbl q))->gN K H a (ns.map V.int)->lJ P w H M.heap->(∀b q,H b=some (.tbl q)->M.heap.get? b=some (PySem.W.tabObj #[])/\isCodeTable M.heap b) ->
   (∀b o u,H b=some (.frz o u)->b=a)->(∀b o u,H b=some (.frz o u)->K.lookup b=none) ->
   codeAny (model P w) callerA (.call (.ref fa) ⟨[.ref a],[]⟩) (λr s'=>r=.ok (.ret (.bool true))/\OldK M.heap s'.heap/\s'.os=M.os/\AllBare s'.gens) M:=by
  intro H j hT hS hok l E hK;have WP:∀ {b:Addr}{o:Obj},M.heap.get? b=some o->(o.cls≠.none)->(o.cls≠.type "list")->H b=none:=λ{b o} e d d'=>by
   rcases j b with q|⟨ob,xs,q⟩|⟨u,q⟩
   ·exact q
   ·have A:b=a:=E b _ _ q;subst A;rw[ha]at e;cases e;exact absurd rfl d'
   ·rw[(l b u q).1]at e;cases e;exact absurd rfl d
  have WQ:∀ {b:Addr}{o:Obj}{es:Array DictEntry}{p:Nat},M.heap.get? b=some o->o.data=.dict es p->H b=none:=λ{b o es p} e d=>by
   rcases j b with q|⟨ob,xs,q⟩|⟨u,q⟩
   ·exact q
   ·have A:b=a:=E b _ _ q;subst A;rw[ha]at e;cases e;cases d
   ·rw[(l b u q).1]at e;cases e;cases d
  have t:∀ {b:Addr}{m:SV},M.heap.Ns b m->(yf M.heap H).Ns b m:=λ{b m} ⟨o,es,p,e,d,r⟩=>⟨o,es,p,q8 e (WQ e d),d,r⟩;have I:K.In (yf M.heap H):=λb o e=>q8 (y b o e) (by
   rcases j b with q|⟨ob,xs,q⟩|⟨u,q⟩
   ·exact q
   ·rw[hK b _ _ q]at e;cases e
   ·have z:=(l b u q).1;rw[y b o e]at z;cases z
    have:=uR L _ (PySem.W.mem_of_lookupK e);simp at this)
  have hM:Mod K mg (yf M.heap H):=⟨I,t B,⟨mb,t hb,N⟩,let ⟨mc,h1,h2⟩:=Q;⟨mc,t h1,h2⟩,by
   obtain⟨bm,ob,b1,b2,b3,b4,b5⟩:=R;exact⟨bm,ob,b1,b2,q8 b3 (WP b3 (by rw[b4];exact λz=>nomatch z) (by rw[b4];intro z;injection z with z;exact absurd z (by decide))),b4,b5⟩⟩
  have e0:Env0 P w K mg (yf M.heap H) callerA [] M H:=⟨rfl,hM,λb o e=>Im e,le_of_eq (D0 _ _),trivial,λb hb=>absurd (show b∈([]:List Addr)from hb) (by simp),hok,.of_eq S⟩;refine codeAny_mono ((F _ I (t B)).run callerA [] M H ⟨[.ref a],[]⟩ [.ref a] [.ref a] _ _ X e0 (Y M (.ref a)) (.cons rfl .nil) (Z H hT hS)) λr s' h=>?_;cases r with
  |error e=>exact False.elim h
  |ok fl=>
   cases fl with
   |next=>exact False.elim h
   |brk=>exact False.elim h
   |cont=>exact False.elim h
   |ret u=>
    obtain⟨v,H',os,bare,un,J,r',q⟩:=h;have f:v=.bl true:=q;subst f;obtain rfl:u=Value.bool true:=r';have kp:∀b o,H b=none->M.heap.get? b=some o->s'.heap.get? b=some o:=λb o n e=>un.keep b o e n (by intro z;exact absurd (show b∈([]:List Addr)from z) (by simp)) (by simp);refine⟨rfl,⟨λb o e=>?_,λb o e=>un.there b o e (by simp)⟩,os,bare⟩;rcases j b with z|⟨ob,xs,z⟩|⟨u,z⟩
    ·exact .inl (kp b o z e)
    ·have z2:=un.frzs b ob _ z;obtain⟨g,_⟩:=hok b _ z;obtain⟨e2,_⟩:=J b _ z2;rw[e]at g;cases g;exact .inl e2
    ·obtain⟨g,e2⟩:=l b u z;rw[e]at g;cases g;obtain⟨ps,e3,_⟩:=J b _ (un.tbls b u z);exact .inr (.inl ⟨e2,rfl,#[],ps,rfl,by simpa using e3⟩)
 have NL:∀q,O.lookup a≠some q:=λq z=>by
  have:=(i a q z).1;rw[ha]at this;cases this
 have ta:O.lookup a=none:=by
  cases z:O.lookup a with
  |none=>rfl
  |some q=>exact absurd z (NL q)
 have U:∀(G:Hp) b q,O.lookup b=some q->bI P w (qO O G) M.heap b (.tbl q):=λG b q z=>⟨#[],(i b q z).1,trivial,λpos cv c=>by cases c⟩;cases hk:K.lookup a with
 |some o=>
  have e:=y a o hk;rw[ha]at e;cases e
  refine D (qO O λ_=>none) (λb=>?_) (λb q z=>gF z) (.inr ⟨_,vs.toArray,_,hk,rfl,rfl,rfl,by rw[vH,SO];exact hl,by simpa using C⟩) (λb u z=>?_) (λb q z=>?_) (λb o u z=>?_) λb o u z=>?_
  all_goals cases T:O.lookup b with
   |none=>first|exact .inl (jt T)|(rw[jt T]at z;cases z)
   |some f=>first|exact .inr (.inr ⟨f,gF T⟩)|(rw[gF T]at z;cases z;done)|(rw[gF T]at z;cases z;first|exact U _ b _ T|exact i b _ T)
 |none=>
  refine D (qO O λb=>if b=a then some (.frz { cls:=.type "list",data:=.seq vs.toArray } (.lst (ns.map V.int)))else none) (λb=>?_) (λb q z=>gF z) (.inl (.inr ⟨{ cls:=.type "list",data:=.seq vs.toArray },by rw[jt ta,if_pos rfl]⟩)) (λb u z=>?_) (λb q z=>?_) (λb o u z=>?_) λb o u z=>?_
  all_goals cases T:O.lookup b with
   |some f=>first|exact .inr (.inr ⟨f,gF T⟩)|(rw[gF T]at z;cases z;done)|(rw[gF T]at z;cases z;first|exact U _ b _ T|exact i b _ T)
   |none=>
    first
    |rw[jt T]at z
    |rw[jt T]
    by_cases hb:b=a
    ·first
     |rw[if_pos hb]at z
     |rw[if_pos hb]
     first
     |exact .inr (.inl ⟨_,_,rfl⟩)
     | (cases z;subst hb;exact⟨ha,by rw[vI];exact hl,vs,_,C,ha⟩)
     |exact hb
     | (rw[hb];exact hk)
     |cases z
    ·first
     | (rw[if_neg hb]at z;cases z)
     |exact .inl (if_neg hb)
noncomputable def xa (L:List (Str×Option (Addr×Addr))):List (Addr×Str):=L.filterMap λp=>p.2.map λq=>(q.2,qE p.1)
structure qz (K:Frag)(L:List (Str×Option (Addr×Addr))):Prop where
 names:L=mN.map λx=>(x,PySem.W.tabIn K x)
 apart:((xa L).map (·.1)).Nodup
 none:PySem.W.noTabs K=true
theorem lN {α G:Type}[BEq α][LawfulBEq α]:∀ {l:List (α×G)}{a:α}{b:G},(l.map (·.1)).Nodup->(a,b)∈l->l.lookup a=some b
 | (c,d)::l,a,b,nd,h=>by
  rw[lookup_cons];rcases vP h with e|h
  ·cases e;simp
  ·have ne:a≠c:=λz=>(nodup_cons.mp nd).1 (by rw[<-z];exact uS ⟨(a,b),h,rfl⟩);rw[show(a == c)=false by simpa using ne];exact lN (nodup_cons.mp nd).2 h
theorem kB {α G:Type}[BEq α][LawfulBEq α]:∀ {l:List (α×G)}{a:α}{b:G},l.lookup a=some b->(a,b)∈l
 | (c,d)::l,a,b,h=>by
  rw[lookup_cons]at h;cases e:a == c with
  |true=>rw[e]at h;cases h;rw[eq_of_beq e];exact mX
  |false=>rw[e]at h;exact mZ _ (kB h)
def qz.tb {K:Frag}{L:List (Str×Option (Addr×Addr))}(F:qz K L){H:Hp}(h:∀b q,(xa L).lookup b=some q->H b=some (.tbl q)):Tb K H:=λx hx c P e=>by
 refine h P (qE x) (lN F.apart ?_);rw[F.names];exact mem_filterMap.mpr ⟨(x,PySem.W.tabIn K x),uS ⟨x,hx,rfl⟩,by rw[e];rfl⟩
def tab_yes {K:Frag}{x:Str}{f c P:Addr}{oc M:Value}{od O:Option Addr}{lI G:Array (Option Value)}{fd:FuncData}{vs:AV}(T:nsIn K mainGlobals x=some (some (.ref f)))(e2:K.lookup f=some ⟨oc,od,.func fd,lI⟩)(U:fd.code=.ref c)
  (a:K.lookup c=some ⟨M,O,.fields vs,G⟩) (b:vs[11]? = some (.ref P)):PySem.W.tabIn K x=some (c,P):=by unfold PySem.W.tabIn;simp only[T,e2,U,a,b]
def tabs_fit {K:Frag}{G M O T:Option (Addr×Addr)}(h0:PySem.W.tabIn K "in_order" = G)(h1:PySem.W.tabIn K "has_seal" = M)(h2:PySem.W.tabIn K "is_first_death" = O)(h3:PySem.W.tabIn K "bases_by" = T)
  (U:((xa [("in_order",G),("has_seal",M),("is_first_death",O),("bases_by",T)]).map (·.1)).Nodup) (nt:PySem.W.noTabs K=true):qz K [("in_order",G),("has_seal",M),("is_first_death",O),("bases_by",T)] :=
 ⟨by subst h0;subst h1;subst h2;subst h3;rfl,U,nt⟩
def walkD {l:PySem.W.OpenLaw}{q:Program}{O:LS}{B:SV->Heap->Prop}{t:World->Heap->Prop}{d:DefRec}{K:Params->Frag}{k:Nat}{x:Str}{f:LD->OB}{L:List (Str×Option (Addr×Addr))}(hn:l.most=some 63)(C:d.params.defaults=[])(D:eV k callerA)
  (E:∀(w:World)(h:Heap),t w h->(K w.params).In h) (i:∀w:World,qz (K w.params) L) (I:(L.all λp=>p.2.isNone || ((recsOf q).find? λe=>e.name == p.1).isSome)=true)
  (F:∀(w:World)(mg:SV)(fa:Addr)(h:Heap),(K w.params).In h->h.Ns mainGlobals mg->mg d.name=some (.ref fa) ->
   ∃fd:FuncData,(∀(s:Shared)(u:Value),BindsTo s fd ⟨[u],[]⟩ [(x,u)])/\∀base:Heap,(K w.params).In base->base.Ns mainGlobals mg->nW l.prog w (K w.params) mg base xZ k fa fd [x] (F8 (K w.params) f))
  (J:∀ns:LI,ns.length<=63->∃b,f [.lst (ns.map .int)]=some (.bl true,b)):PySem.W.WalkO q O B t l.row.toRowW d [] (λf vs=>PySem.call f vs):=by
 refine Att.yk hn C λw s₀ z mg mb fa o pm cd doc a vs ns G Y ho hd KJ j Q U M R=>?_;have m:=E w _ Y;obtain⟨fd,hb,S⟩:=F w mg fa _ m G.T.g j;refine DK (xa L) (λb u e=>?_) (i w).none m G.T.g G.T.b G.T.builtins G.T.nolimit G.T.bmain R Q U (vR M (by decide)) D S hb λH V X=>?_
 ·obtain⟨p,hp,e2⟩:=mem_filterMap.mp (kB e);obtain⟨⟨c,P⟩,A,Z⟩:=oY e2;cases Z
  have n:=uR I p hp;rw[A]at n;rw[isNone_some,Bool.false_or]at n;obtain⟨r,WR⟩:=uU n;have WS:PySem.W.tabIn (K w.params) p.1=some (c,P):=by
   rw[(i w).names]at hp;obtain⟨y,_,rfl⟩:=vO hp;exact A
  obtain⟨h1,h2⟩:=PySem.W.tab_of G.T m WR WS;exact⟨h2,(h1.tab h2).isCodeTable⟩
 ·obtain⟨b,e⟩:=J ns M;exact⟨H,_,_,b,⟨.refl H,(i w).tb V⟩,.cons (.lst X (.flat rfl)) .nil,e,λv H' N x' i' _=>by cases i';rfl⟩
def cJ.law {P:Program}{w:World}{K:Frag}{mg:SV}{x y:Str}{st:Stmt}{N:LS}{k:Nat}{g:FS}{h:Heap}{fa:Addr}(F:cJ K x st)(X:K.In h)(G:h.Ns mainGlobals mg)(M:mg x=some (.ref fa))(S:FnScope N [y] (aJ st))
  (O:∀(kV doc pm:Value)(an:Option Addr)(cW ct:Value)(u:Value),bindArgs (fnOf x x (dN st) (cf st) (aJ st) .none kV doc pm an cW ct) ⟨[u],[]⟩=pure [(y,u)])
  (hb:∀(base:Heap),K.In base->base.Ns mainGlobals mg->∀(f:Addr)(cW:Value)(A:Around)(outer:List PySem.Env)(s:Shared)(H:Hp)(E:XK),eV k (A.deeper (envOfC x (aJ st) s.z f cW))->um (oh xZ P w K mg base N x (aJ st) f cW A outer s H E).nox (cf st) g):
  ∃fd:FuncData,(∀(s:Shared)(u:Value),BindsTo s fd ⟨[u],[]⟩ [(y,u)])/\∀base:Heap,K.In base->base.Ns mainGlobals mg->nW P w K mg base xZ (k+1) fa fd [y] (F8 K (aE g 1 (N.length - 1))):=by
 obtain⟨f,fd,T,a⟩:=F;have e:=M.symm.trans (mg_of X G a);cases e
 refine⟨fd,λs u=>?_,λbase U b=>Pn T S (hb base U b _)⟩;obtain⟨oc,od,kV,doc,pm,an,cW,ct,lI,rfl,c,d⟩:=T.ex;exact .of_eq (O kV doc pm an cW ct u)
section
variable {X:Cx}{a b e:Expr}{pos:Pos}{x:Str}{p:Pos}
@[simp] noncomputable def Ji:D->D->OB
 |.lst xs,.lst ys=>if xs.length+ys.length<=sizeLine then some (.lst (xs++ys),true)else none
 |_,_=>none
def MF:dI X (binaryOp .Add) (rD X.K Ji):=by
 intro ah s σ H x y v u Q I m n q;obtain⟨B,dx,D,d,bb,T,r,t,O,q⟩:=q;cases r<;>try (cases O;done)
 all_goals (cases t<;>try (cases O;done))
 rename_i l vs ds h hl w z es h' M;simp only[Ji]at O;split at O
 ·rename_i hz;cases O
  cases m
  cases n
  obtain⟨its,U,A,E⟩:=I.list (T.seq h);obtain⟨G,c,p2,J⟩:=I.list (T.seq h');obtain⟨⟨L,d1,N,s1⟩,f,g,n1,k1⟩:=A.isList;obtain⟨⟨P,d2,R,s2⟩,i,e2,n2,k2⟩:=p2.isList;dsimp only at g k1 e2 k2;subst g;subst k1;subst e2;subst k2;have hsz:its.toArray.size+G.toArray.size<=sizeLine:=by
   rw[vH,vH,<-U.length,<-c.length,hl.length,M.length];exact hz
  have C:its.toArray++G.toArray=(its++G).toArray:=by simp
  refine concat_meets ⟨_,f,rfl⟩ ⟨_,i,rfl⟩ noFill_list_add seq_list_add PySem.F.slot_list_add PySem.F.entry_list_add (PySem.F.args_list_add_2 _ _) (list_addW l w its.toArray G.toArray n1 n2 d1 d2 s1 s2 hsz) ⟨f,i,?_⟩;rw[C];have j:=Ext.laid (o:=.lst (vs++z)) T I.fresh;have k:=(hl.append M).mono j.bn;exact⟨.ref s.z,_,I.lnew (t':=s.toks) (U.append c) (by rw[uZ,hl.length,M.length];exact hz),rfl,q _ _ _ j (.lst (gN.of aB) k) λ_=>⟨_,_,_,rfl,rfl,I.fresh,aB,k⟩⟩
 ·cases O
@[simp] noncomputable def tQ:D->D->OB
 |.tup xs,.tup ys=>if xs.length+ys.length<=sizeLine/\xs.isEmpty=false then some (.tup (xs++ys),false)else none
 |_,_=>none
def FL:dI X (binaryOp .Add) (rD X.K tQ):=by
 refine jg IH λx y H Q q=>?_;obtain⟨B,dx,i,d,bb,O,c,f,M,q⟩:=q;cases c<;>try (cases M;done)
 all_goals (cases f<;>try (cases M;done))
 rename_i l vs ds h hl g T es h' G;simp only[tQ]at M;split at M
 ·rename_i hz;cases M
  have l1:=hl.length;have l2:=G.length;refine⟨l,g,vs,T,rfl,rfl,b7 O h,b7 O h',λz=>?_,by omega,λz=>?_,λ_ pp hp=>?_⟩
  ·subst z;cases hl
   simp at hz
  ·subst z;cases G
   rw[uQ]at q;exact q.one O (.tup h hl)
  ·have U:=Ext.laid (o:=.tup (vs++T)) O hp;exact q _ _ _ U (.tup (iP.of aB) ((hl.append G).mono U.bn)) (by simp)
 ·cases M
@[simp] noncomputable def FM:D->D->OB
 |.bl i,.int j=>some (.int ((if i=true then 1 else 0)+j),false)
 |.int i,.bl j=>some (.int (i+b2i j),false)
 |_,_=>none
def MG:dI X (binaryOp .Add) (rD X.K FM):=by
 intro ah s σ H x y v u Q I M O q;obtain⟨B,dx,f,d,bb,T,U,c,G,q⟩:=q;cases U<;>try (cases G;done)
 all_goals (cases c<;>try (cases G;done))
 ·simp only[FM]at G;cases G
  cases M
  obtain⟨t,rfl⟩:=O;exact IntBool.add_bool_int ⟨.int _,H,I.tok _,⟨_,rfl⟩,q.one T (.int _)⟩
 ·simp only[FM]at G;cases G
  exact D5 ah s σ H _ _ v u Q I M O ⟨_,_,rfl,rfl,q.one T (.int _)⟩
@[simp] noncomputable def eQ:D->D->OB
 |.int i,.int j=>some (.int (i+j),false)
 |.str i,.str j=>if i.length+j.length<=sizeLine then some (.str (i++j),false)else none
 |.lst xs,.lst ys=>if xs.length+ys.length<=sizeLine then some (.lst (xs++ys),true)else none
 |.tup xs,.tup ys=>if xs.length+ys.length<=sizeLine/\xs.isEmpty=false then some (.tup (xs++ys),false)else none
 |.bl i,.int j=>some (.int ((if i=true then 1 else 0)+j),false)
 |.int i,.bl j=>some (.int (i+b2i j),false)
 |_,_=>none
def dz:dI X (binaryOp .Add) (rD X.K eQ):=by
 refine jg (r:=rD X.K (EN Ca (EN Ji (EN tQ FM)))) (oj Jg (oj MF (oj FL MG))) λx y H Q q=>?_;obtain⟨B,dx,M,d,bb,O,T,U,G,q⟩:=q;refine⟨B,dx,M,d,bb,O,T,U,?_,q⟩;cases dx<;>try (cases G;done)
 all_goals (cases M<;>try (cases G;done))
 all_goals (simp[eQ]at G;simp[EN,Ca,Ji,tQ,FM,G])
@[simp] noncomputable def RZ:D->Option Bool
 |.bl b=>some b
 |_=>none
def tR:LD->Option (List Bool)
 |[]=>some []
 |d::ds=>(RZ d).bind λb=>(tR ds).map (b :: ·)
@[simp] def Pr:tR []=some []:=rfl
@[simp] def DM (d:D)(ds:LD):tR (d::ds)=(RZ d).bind λb=>(tR ds).map (b :: ·):=rfl
theorem xc {K:Frag}{B:Hp}:∀ {vs:LV}{ds:LD}{bs:List Bool}{its:LU},L2.bq vs its->IsL K B vs ds->tR ds=some bs->its=bs.map Value.bool
 |_,_,_,_,.nil,.nil,e=>by cases e;rfl
 |_,_,_,_,.cons r M,.cons i O,e=>by
  rw[DM]at e;obtain⟨b,G,e⟩:=oX e;obtain⟨bs,e2,e⟩:=oY e;subst e;cases i<;>simp only[RZ]at G<;>try (cases G;done)
  cases G
  cases r
  rw[xc M O e2];rfl
@[simp] def yB:LD->OB
 |[.lst ds]=>(tR ds).map λbs=>(.bl (bs.all id),false)
 |_=>none
@[simp] def FN:LD->OB
 |[.lst ds]=>(tR ds).map λbs=>(.bl (bs.any id),false)
 |_=>none
def yC (hc:X.calm=true:=by rfl):cr X (.builtin "all") (BQ X.K yB):=by
 intro ah s σ H xs us Q I k q;obtain⟨B,ds,d,bb,g,i,G,q⟩:=q;cases i with
 |nil=>cases G
 |cons i1 i=>
  cases i with
  |cons _ _=>cases i1<;>cases G
  |nil=>
   cases i1<;>try (cases G;done)
   rename_i l vs es h hl;obtain⟨bs,m,G⟩:=oY G;cases G
   obtain⟨y,rfl,n⟩:=iq k;cases n
   obtain⟨its,r,T,z⟩:=I.list (g.seq h);have ei:=xc r hl m;have U:l<s.z:=by obtain⟨_,M,_⟩:=T.isList;exact vX M
   refine call_all_walk (wpAny_pyIter_list T.isList ⟨_,_,_,_,_,_,λj=>(bs[j]?).getD true,rfl,Walks.list (A:=X.A.in1) (I.ok.hd hc) s.z l (vS U) its.toArray,⟨⟨_,vY _ rfl,rfl,rfl⟩,T.isList.push _⟩,λj v s' C D t f=>?_,λh' tk hk=>?_⟩)
   ·have O:its[j]? = some v:=by simpa using t
    rw[ei,vA]at O;obtain⟨c,u,e2⟩:=oY O;subst e2;dsimp only at f;rw[u]at f;exact wpAny_truthy_bool f
   ·have w:((List.range its.toArray.size).all λj=>(bs[j]?).getD true)=bs.all id:=by
     rw[vH,ei,vI];exact LSm.range_all bs
    rw[w];refine⟨.bl _,H,I.kept λc o M=>?_,rfl,q.one g (.bl _)⟩;exact hk c o (λhm=>by rw[uT hm]at M;exact Nat.lt_irrefl _ (vX M)) (vZ _ M)
def Lk (hc:X.calm=true:=by rfl):cr X (.builtin "any") (BQ X.K FN):=by
 intro ah s σ H xs us Q I k q;obtain⟨B,ds,d,bb,g,i,G,q⟩:=q;cases i with
 |nil=>cases G
 |cons i1 i=>
  cases i with
  |cons _ _=>cases i1<;>cases G
  |nil=>
   cases i1<;>try (cases G;done)
   rename_i l vs es h hl;obtain⟨bs,m,G⟩:=oY G;cases G
   obtain⟨y,rfl,n⟩:=iq k;cases n
   obtain⟨its,r,T,z⟩:=I.list (g.seq h);have ei:=xc r hl m;have U:l<s.z:=by obtain⟨_,M,_⟩:=T.isList;exact vX M
   refine call_any_walk (wpAny_pyIter_list T.isList ⟨_,_,_,_,_,_,λj=>(bs[j]?).getD false,rfl,Walks.list (A:=X.A.in1) (I.ok.hd hc) s.z l (vS U) its.toArray,⟨⟨_,vY _ rfl,rfl,rfl⟩,T.isList.push _⟩,λj v s' C D t f=>?_,λh' tk hk=>?_⟩)
   ·have O:its[j]? = some v:=by simpa using t
    rw[ei,vA]at O;obtain⟨c,u,e2⟩:=oY O;subst e2;dsimp only at f;rw[u]at f;exact wpAny_truthy_bool f
   ·have w:((List.range its.toArray.size).any λj=>(bs[j]?).getD false)=bs.any id:=by
     rw[vH,ei,vI];exact LSm.range_any bs
    rw[w];refine⟨.bl _,H,I.kept λc o M=>?_,rfl,q.one g (.bl _)⟩;exact hk c o (λhm=>by rw[uT hm]at M;exact Nat.lt_irrefl _ (vX M)) (vZ _ M)
def Ll:bootBuiltins "any" = some (.builtin "any"):=by decide +kernel
end
noncomputable def QX (z:Str):It:=⟨λi _=>i<z.cps.size,λi H v H'=>H'=H/\∃c,z.cps[i]? = some c/\v=.str ⟨#[c]⟩,λi _=>z.cps.size<=i⟩
def yD {P:Program}{w:World}{K:Frag}{tg:Expr}(z:Str)(t:Tok)(it:Addr):Turn P w K tg (QX z) [it] it (λi h=>h.IsStrIter it "str_ascii_iterator" z t i) where
 mem:=mem_singleton.mpr rfl
 obj:=λi h st b hb=>by
  have T:=uT hb;subst T;obtain⟨o,M,_,d1⟩:=st;exact⟨o,M,λv e=>by rw[d1]at e;cases e⟩
 keep:=λi h h' st k=>let ⟨o,M,r⟩:=st;⟨o,k it (mem_singleton.mpr rfl) o M,r⟩
 item:=by
  intro X U hw a hc i ah s σ H E I hf st d;subst U hw a;have G:i<z.cps.size:=d;obtain⟨f0,f1,f2,f3,f4,f5⟩:=hf it (mem_singleton.mpr rfl);refine wpAny_pyNext_ascii_item st (c:=z.cps[i]) (by simp[G]) λh' O f=>?_;obtain⟨o,M,g,d1⟩:=id O;exact⟨_,rfl,q9 (s:={ s with heap:=h',toks:=s.toks+1 }) M g d1 (by decide) ⟨.str ⟨#[z.cps[i]]⟩,H,I.turned (λb o hb e2=>(f.2 b hb).trans e2) f0 f1 f3 f4 f5,⟨_,rfl⟩,⟨rfl,_,by simp[G],rfl⟩,O,λb hb=>(hf b hb).1⟩⟩
 done:=by
  intro X U hw a hc i ah s σ H E I hf st d;subst U hw a;have G:z.cps.size<=i:=d;obtain⟨f0,f1,f2,f3,f4,f5⟩:=hf it (mem_singleton.mpr rfl);exact wpAny_pyNext_ascii_end (I.ok.hd hc) st (by simp;omega) λh' T=>⟨rfl,I.turned (t':=s.toks) (λb o hb e2=>T b o hb e2) f0 f1 f3 f4 f5⟩
 self:=λ_ _ _ _ _ st h=>wpAny_pyIter_striter_ascii st h
def yE {P:Program}{w:World}{K:Frag}{tg:Expr}(z:Str)(t:Tok)(it:Addr):Turn P w K tg (QX z) [it] it (λi h=>h.IsStrIter it "str_iterator" z t i) where
 mem:=mem_singleton.mpr rfl
 obj:=λi h st b hb=>by
  have T:=uT hb;subst T;obtain⟨o,M,_,d1⟩:=st;exact⟨o,M,λv e=>by rw[d1]at e;cases e⟩
 keep:=λi h h' st k=>let ⟨o,M,r⟩:=st;⟨o,k it (mem_singleton.mpr rfl) o M,r⟩
 item:=by
  intro X U hw a hc i ah s σ H E I hf st d;subst U hw a;have G:i<z.cps.size:=d;obtain⟨f0,f1,f2,f3,f4,f5⟩:=hf it (mem_singleton.mpr rfl);refine wpAny_pyNext_wide_item st (c:=z.cps[i]) (by simp[G]) λh' O f=>?_;obtain⟨o,M,g,d1⟩:=id O;exact⟨_,rfl,q9 (s:={ s with heap:=h',toks:=s.toks+1 }) M g d1 (by decide) ⟨.str ⟨#[z.cps[i]]⟩,H,I.turned (λb o hb e2=>(f.2 b hb).trans e2) f0 f1 f3 f4 f5,⟨_,rfl⟩,⟨rfl,_,by simp[G],rfl⟩,O,λb hb=>(hf b hb).1⟩⟩
 done:=by
  intro X U hw a hc i ah s σ H E I hf st d;subst U hw a;have G:z.cps.size<=i:=d;obtain⟨f0,f1,f2,f3,f4,f5⟩:=hf it (mem_singleton.mpr rfl);exact wpAny_pyNext_wide_end (I.ok.hd hc) st (by simp;omega) λh' T=>⟨rfl,I.turned (t':=s.toks) (λb o hb e2=>T b o hb e2) f0 f1 f3 f4 f5⟩
 self:=λ_ _ _ _ _ st h=>wpAny_pyIter_striter_wide st h
section
variable {X:Cx}{a b e:Expr}{pos:Pos}{x:Str}{p:Pos}{tg:Expr}
def FP {l:Expr}{tl:TE}(hl:PE X l tl):PI X tg l (λσ H R=>tl σ H λx G=>∃z,x=.str z/\R (QX z) G):=by
 intro ah s σ H R I h;refine cA (hl ah s σ H _ I h) λv s1 ⟨x,G,M,O,T⟩=>?_;obtain⟨z,rfl,q⟩:=T;obtain⟨t,rfl⟩:=O;have fp:∀b∈[s1.z],md X ah G b:=λb hb=>by
  rw[uT hb];exact M.fpOk (vT _) (M.hok.fresh (vT _))
 cases ha:z.cps.all (· < 128) with
 |true=>exact wpAny_pyIter_ascii ha ⟨_,[s1.z],_,_,G,rfl,M.kept (t':=s1.toks) λb o e=>vZ _ e,yD z t _,⟨_,vY _ rfl,rfl,rfl⟩,fp,q⟩
 |false=>exact wpAny_pyIter_wide ha ⟨_,[s1.z],_,_,G,rfl,M.kept (t':=s1.toks) λb o e=>vZ _ e,yE z t _,⟨_,vY _ rfl,rfl,rfl⟩,fp,q⟩
noncomputable def Cf (z:Str):LD:=z.cps.toList.map λc=>.str ⟨#[c]⟩
def FQ {K:Frag}{B:Hp}(z:Str):mO K (QX z) B (Cf z):=by
 intro i H s;refine⟨λd ed=>?_,λhl=>by unfold Cf at hl;show z.cps.size<=i;simpa using hl⟩;unfold Cf at ed;rw[vA]at ed;obtain⟨c,O,rfl⟩:=oY ed;have G:z.cps[i]? = some c:=by simpa using O
 refine⟨(Array.getElem?_eq_some_iff.mp G).1,λv H' hy=>?_⟩;obtain⟨rfl,T,M,rfl⟩:=hy;rw[G]at M;cases M;exact⟨B,.refl s,.str _⟩
@[simp] def MH:D->Option LD
 |.lst ds=>some ds
 |.tup ds=>some ds
 |.str z=>some (Cf z)
 |_=>none
@[simp] def bK (f:FE):FA:=λρ=>(f ρ).bind λx=>MH x.1
def bP (h:JE X e f):JI X tg e (bK f):=by
 intro ah s σ H R I q;obtain⟨B,ρ,ds,G,r,M,q⟩:=q;obtain⟨O,ex,es⟩:=oX M;obtain⟨xd,c⟩:=O;cases xd with
 |lst l=>exact Ce h ah s σ H R I ⟨B,ρ,ds,G,r,by unfold FJ;rw[ex];exact es,q⟩
 |tup l=>exact Ce h ah s σ H R I ⟨B,ρ,ds,G,r,by unfold FJ;rw[ex];exact es,q⟩
 |str z=>
  cases es
  refine FP h ah s σ H R I ⟨B,ρ,_,_,G,r,ex,λv T N1 U i1 _=>?_⟩;cases i1
  exact⟨z,rfl,q _ T N1 U (FQ z)⟩
 |_=>cases es
def Jj:EL X (λx lo hi H Q=>∃z,x=.str z/\z.length<=sizeLine/\Q (.str (Txt.slice z lo hi)) H):=by
 intro ah s σ H x v vl T lo hi sl Q I O hs pl M h;obtain⟨z,rfl,hz,q⟩:=h;obtain⟨t,rfl⟩:=O;have iO:∀lo hi,Q (.str (Txt.slice z lo hi)) H->(Txt.slice z lo hi).length<=sizeLine/\∀t' k,EP X ah σ Q (.str (Txt.slice z lo hi) t') { s with toks:=k }:=λlo hi q=>
  ⟨vR (Txt.slice_le z _ _) hz,λt' k=>⟨.str _,H,I.tok k,⟨t',rfl⟩,q⟩⟩
 refine⟨"str",_,PySem.F.slot_str_getitem.lookup,typeIs_str _ _ _,?_⟩;cases pl with
 |none=>
  cases M with
  |none=>exact wpAny_getItem_str_slice (l:=none) (u:=none) (st:=none) hs rfl (post_val_or_str (iO _ _ q))
  |int j G=>exact wpAny_getItem_str_slice (l:=none) (u:=some (j,G)) (st:=none) hs rfl (post_val_or_str (iO _ _ q))
 |int i ti=>
  cases M with
  |none=>exact wpAny_getItem_str_slice (l:=some (i,ti)) (u:=none) (st:=none) hs rfl (post_val_or_str (iO _ _ q))
  |int j G=>exact wpAny_getItem_str_slice (l:=some (i,ti)) (u:=some (j,G)) (st:=none) hs rfl (post_val_or_str (iO _ _ q))
def DN {A:Around}{E:QV}{s:Shared}{prog:Program}{w:World}{t sl:Addr}{items:AV}{vl U:Value}{lo hi:OI}{Q:QV}(G:IsTup s.heap t items)(hs:s.heap.IsSliceOf sl vl U .none)(pl:IsPart vl lo)(c:IsPart U hi)
  (h0:HT.dS items.size 0 lo=0) (h1:HT.dS items.size items.size hi=items.size) (h:Q (.ref t) s):wpAny (model prog w) A (getItem (.ref t) (.ref sl)) Q E s:=by
 obtain⟨os,M,O,f⟩:=id hs
 have d:s.TypeIs (.ref sl) "slice":=⟨os,M,O⟩
 unfold getItem
 try with_reducible refine wpAny_holding ?_
 first|refine wX (wY ?_)|skip
 refine wX (wpAny_sequenceKey G.typeIs (by decide) ?_)
 refine wX (wpAny_callSpecial?_slot (name:=Str.ofString "__getitem__") G.typeIs PyProof.Rows.slot_tuple_getitem (wpAny_call_entry PyProof.Rows.slot_tuple_getitem G.typeIs entry_tuple_getitem ?_ (args_tuple_getitem _ _)))
 show wpAny _ _ (Builtin.Tuple.tupleItemsOf (.ref t)>>=_) _ _ s
 refine wX (tupleItemsOf_ G ?_)
 refine wX (wpAny_typeOf d ?_)
 rw[if_pos (by decide)]
 refine wX (HT.jp hs pl c ?_)
 have T:(((HT.dS items.size 0 lo:Nat):Int) == 0 && (1:Int) == 1 && (HT.dS items.size items.size hi - HT.dS items.size 0 lo) == items.size)=true:=by
  rw[h0,h1];simp
 show wpAny _ _ (if(((HT.dS items.size 0 lo:Nat):Int) == 0 && (1:Int) == 1 && (HT.dS items.size items.size hi - HT.dS items.size 0 lo) == items.size)=true then _ else _) _ _ s
 rw[if_pos T]
 refine wX ?_
 unfold Builtin.Tuple.tupleIsExact
 refine wX (wpAny_typeOf G.typeIs (wY ?_))
 show wpAny _ _ (if((Value.type "tuple") == Value.type "tuple")=true then _ else _) _ _ s
 rw[if_pos (by decide)]
 refine wX (wpAny_rule ?_)
 exact wY ⟨_,rfl,wY h⟩
def Jk:EL X (λx lo hi H Q=>∃a xs,x=.ref a/\iP X.K H a xs/\HT.dS xs.length 0 lo=0/\HT.dS xs.length xs.length hi=xs.length/\Q (.ref a) H):=by
 intro ah s σ H x v vl U lo hi sl Q I O hs pl T h;obtain⟨a,xs,rfl,hx,h0,h1,q⟩:=h;cases O
 obtain⟨its,r,M,hz⟩:=I.tuple hx;have G:its.toArray.size=xs.length:=by rw[vH];exact r.length.symm
 refine⟨"tuple",_,PyProof.Rows.slot_tuple_getitem.lookup,M.typeIs,?_⟩;exact DN M hs pl T (by rw[G];exact h0) (by rw[G];exact h1) ⟨.ref a,H,I,rfl,q⟩
@[simp] def qh (fa:FE)(fl G:FO):FE:=λρ=>(fa ρ).bind λx=>(fl ρ).bind λl=>(G ρ).bind λh=>match x.1 with
 |.lst ds=>some (.lst (iQ ds l h),true)
 |.tup ds=>some (.tup (iQ ds l h),false)
 |.str z=>if z.length<=sizeLine then some (.str (Txt.slice z l h),false)else none
 |_=>none
def AH {ds:LD}{lo hi:OI}(h0:HT.dS ds.length 0 lo=0)(h1:HT.dS ds.length ds.length hi=ds.length):iQ ds lo hi=ds:=by
 unfold iQ;rw[h0,h1];simp
def fj {lo hi:Option Expr}{p2:Pos}{fa:FE}{fl c:FO}(ha:JE X e fa)(hl:JO X lo fl)(hh:JO X hi c):JE X (.Subscript e (.Slice lo hi none p2) pos) (qh fa fl c):=by
 refine PE.to (Fh (EL.or (EL.or IL Mt) (EL.or Jj Jk)) ha hl hh) λσ H Q q=>?_;obtain⟨B,ρ,d,b,f,r,e,q⟩:=q;obtain⟨x,ex,e⟩:=oX e;obtain⟨l,g,e⟩:=oX e;obtain⟨h,i,e⟩:=oX e;refine⟨B,ρ,x.1,x.2,f,r,ex,λv k N1 G i1 _=>⟨N1,ρ,l,G.nh,r.mono G.bn,g,λH2 h2=>⟨N1,ρ,h,G.nh.trans h2,r.mono G.bn,i,λj h3=>?_⟩⟩⟩;have M:aU N1 j:=G.nh.trans (h2.trans h3);have T:=q.into (G.trans (.grow G.nh (h2.trans h3)));obtain⟨xd,m⟩:=x;dsimp only at e i1;cases i1 with
 |@tup U vs ds hs hv=>
  cases e
  by_cases hw:HT.dS ds.length 0 l=0/\HT.dS ds.length ds.length h=ds.length
  ·rw[AH hw.1 hw.2]at T;exact .inr (.inr ⟨U,vs,rfl,b7 M hs,by rw[hv.length];exact hw.1,by rw[hv.length];exact hw.2,T.one M (.tup hs hv)⟩)
  ·refine .inl (.inr ⟨U,vs,rfl,b7 M hs,by rw[hv.length];exact hw,λp hp=>?_⟩);have O:=Ext.laid (o:=.tup (tJ vs l h)) M hp;exact T _ _ _ O (.tup (iP.of aB) ((wV hv).mono O.bn)) (by simp)
 |@lst U vs ds hs hv=>
  cases e
  refine .inl (.inl ⟨U,vs,rfl,M.seq hs,λp hp=>?_⟩);have O:=Ext.laid (o:=.lst (tJ vs l h)) M hp;exact T _ _ _ O (.lst (gN.of aB) ((wV hv).mono O.bn)) λ_=>⟨p,_,_,rfl,rfl,hp,aB,(wV hv).mono O.bn⟩
 |str z=>
  dsimp only at e;split at e
  ·rename_i hz;cases e
   exact .inr (.inl ⟨z,rfl,hz,T.one M (.str _)⟩)
  ·cases e
 |_=>cases e
def const_int {K:Frag}{y:Str}{i:Int}{t:Tok}(e:nsIn K mainGlobals y=some (some (.int i t))):∃u v,nsIn K mainGlobals y=some (some u)/\bf v u/\∀B,Is K B v (.int i):=⟨_,.int i,e,⟨t,rfl⟩,λ_=>.int i⟩
noncomputable def xf:Value->D->Bool
 |.none,.non=>true
 |.bool a,.bl b=>a == b
 |.int i _,.int j=>decide (i=j)
 |.str i _,.str j=>decide (i=j)
 |_,_=>false
def jI:LU->LD->Bool
 |[],[]=>true
 |u::us,d::ds=>xf u d && jI us ds
 |_,_=>false
theorem ly {K:Frag}{B:Hp}:∀ {u:Value}{d:D},xf u d=true->∃v,bf v u/\Is K B v d
 |.none,.non,_=>⟨.non,rfl,.non⟩
 |.bool a,.bl b,h=>by
  have:a=b:=eq_of_beq h;subst this;exact⟨.bl a,rfl,.bl a⟩
 |.int i t,.int j,h=>by
  have:i=j:=Qs h;subst this;exact⟨.int i,⟨t,rfl⟩,.int i⟩
 |.str i t,.str j,h=>by
  have:i=j:=Qs h;subst this;exact⟨.str i,⟨t,rfl⟩,.str i⟩
theorem jJ {K:Frag}:∀ {us:LU}{ds:LD},jI us ds=true->∃vs,L2.bq vs us/\∀B,IsL K B vs ds
 |[],[],_=>⟨[],.nil,λ_=>.nil⟩
 |u::us,d::ds,h=>by
  rw[jI,vC]at h;obtain⟨vs,r,i⟩:=jJ (K:=K) h.2;obtain⟨v,M,_⟩:=ly (K:=K) (B:=λ_=>none) h.1;refine⟨v::vs,.cons M r,λB=>?_⟩;obtain⟨T,G,U⟩:=ly (K:=K) (B:=B) h.1;have:T=v:=by have O:=M.abs;rw[G.abs]at O;exact vK O
  subst this;exact .cons U (i B)
def const_tup {K:Frag}{y:Str}{a:Addr}{od:Option Addr}{its:AV}{n:Nat}{lI:Array (Option Value)}{ds:LD}(e:nsIn K mainGlobals y=some (some (.ref a)))
  (l:K.lookup a=some ⟨.type "tuple",od,.seq its n,lI⟩) (h:(decide (its.size<=1000) && jI its.toList ds)=true):∃u v,nsIn K mainGlobals y=some (some u)/\bf v u/\∀B,Is K B v (.tup ds):=by
 rw[vC]at h;obtain⟨vs,r,i⟩:=jJ (K:=K) h.2;exact⟨_,.ref a,e,rfl,λB=>.tup (.inr ⟨_,its,n,l,rfl,rfl,le_of_lt (lt_of_le_of_lt (Qs h.1) (by decide)),r⟩) (i B)⟩
end
section
variable {X:Cx}{a b o e:Expr}{pos:Pos}{x:Str}{p:Pos}{tg:Expr}
@[simp] noncomputable def MI:D->Option Str
 |.str z=>some z
 |_=>none
def ju:LD->Option LS
 |[]=>some []
 |d::ds=>(MI d).bind λz=>(ju ds).map (z :: ·)
@[simp] def Oi:ju []=some []:=rfl
@[simp] def AI (d:D)(ds:LD):ju (d::ds)=(MI d).bind λz=>(ju ds).map (z :: ·):=rfl
@[simp] def Oj (zs:LS):ju (zs.map D.str)=some zs:=by
 induction zs with
 |nil=>rfl
 |cons z zs G=>simp[G]
theorem kE {K:Frag}{B:Hp}:∀ {vs:LV}{ds:LD}{zs:LS}{its:LU},L2.bq vs its->IsL K B vs ds->ju ds=some zs->StrsAre its zs
 |_,_,_,_,.nil,.nil,e=>by cases e;exact .nil
 |_,_,_,_,.cons r M,.cons i O,e=>by
  rw[AI]at e;obtain⟨z,G,e⟩:=oX e;obtain⟨zs,e2,e⟩:=oY e;subst e;cases i<;>simp only[MI]at G<;>try (cases G;done)
  cases G
  obtain⟨t,rfl⟩:=r;exact .cons _ t (kE M O e2)
noncomputable def gZ:LN->LD->Env->Option Env
 |[],[],ρ=>some ρ
 |i::is,d::ds,ρ=>gZ is ds (ρ.set i (some (d,false)))
 |_,_,_=>none
@[simp] def ut (ρ:Env):gZ [] [] ρ=some ρ:=by rw[gZ]
@[simp] def mf (i:Nat)(is:LN)(d:D)(ds:LD)(ρ:Env):gZ (i::is) (d::ds) ρ=gZ is ds (ρ.set i (some (d,false))):=by rw[gZ]
@[simp] def Ps (d:D)(ds:LD)(ρ:Env):gZ [] (d::ds) ρ=none:=by simp only[gZ]
@[simp] def Pt (i:Nat)(is:LN)(ρ:Env):gZ (i::is) [] ρ=none:=by simp only[gZ]
@[simp] def DO (is:LN):FG:=λd ρ=>match d with|.tup ds=>gZ is ds ρ|_=>none
def qP:LN->Md
 |[]=>OE
 |i::is=>KW (jW i) (qP is)
def FR:aU (dP N (own σ ρ)) (dP N (own (σ.set i (some v)) (ρ.set i (some (d,false))))):=eW λa u e q=>⟨e,λz=>q (by
 rcases qg z with⟨_,d',p⟩|⟨j,_,d',G,M⟩
 ·cases p
 ·exact⟨j,d',G,M⟩)⟩
theorem uu {K:Frag}:∀ {is:LN}{vs:LV}{ds:LD}{B0 H0 N H:Hp}{σ:St}{ρ ρ':Env}{Q:St->Hp->Prop},dR K B0 H0 N H σ ρ->IsL K (dP N (own σ ρ)) vs ds->gZ is ds ρ=some ρ'->(∀G,dR K B0 H0 N H G ρ'->Q G H)->qP is vs σ H Q
 |[],_,_,_,_,_,_,_,_,_,_,s,.nil,e,k=>by
  rw[ut]at e;cases e;exact⟨rfl,k _ s⟩
 |[],_,_,_,_,_,_,_,_,_,_,_,.cons _ _,e,_=>by simp at e
 |_::_,_,_,_,_,_,_,_,_,_,_,_,.nil,e,_=>by simp at e
 |i::is,_,_,_,_,_,_,_,_,_,_,s,.cons h hs,e,k=>by
  rw[mf]at e;exact⟨_,_,rfl,uu (s.bind h) (hs.mono FR) e k⟩
theorem ou:∀ {is:LN}{ds:LD}{ρ ρ':Env},gZ is ds ρ=some ρ'->ds.length=is.length
 |[],[],_,_,_=>rfl
 |_::_,_::_,_,_,e=>by rw[mf]at e;simp[ou e]
 |[],_::_,_,_,e=>by simp at e
 |_::_,[],_,_,e=>by simp at e
def Lm {K:Frag}{is:LN}:IV K (DO is) (Me K is.length (qP is)):=by
 intro B0 H0 N H σ ρ ρ' v d Q s h e k;cases h with
 |@tup a vs ds O hl=>
  have M:gZ is ds ρ=some ρ':=e;exact⟨a,vs,rfl,b7 (bZ.trans s.ext.nh) O,by rw[hl.length];exact ou M,uu s hl M λG s'=>k G H ⟨N,s'⟩⟩
 |_=>cases e
theorem uw {K:Frag}{n:Nat}{B H:Hp}{M:Env}{Q:St->Hp->Prop}(cl:∀i,i<n->M[i]? = some none):∀ {is:LN}{vs:LV}{ds:LD}{σ:St}{ρ O:Env},(∀i∈is,i<n)->ga K B σ ρ->IsL K B vs ds->gZ is ds ρ=some O->ρ.length=σ.length->ρ.length=M.length ->
  (∀G,ga K B G O->(∀U,ga K U σ M->ga K U G M)->M.length=G.length->Q G H)->qP is vs σ H Q
 |[],_,_,_,_,_,_,rp,.nil,e,l1,l2,k=>by
  rw[ut]at e;cases e;exact⟨rfl,k _ rp (λ_ z=>z) (by omega)⟩
 |[],_,_,_,_,_,_,_,.cons _ _,e,_,_,_=>by simp at e
 |_::_,_,_,_,_,_,_,_,.nil,e,_,_,_=>by simp at e
 |i::is,_,_,σ,ρ,_,hn,rp,.cons (v:=v) h hs,e,l1,l2,k=>by
  rw[mf]at e;have hi:=hn i mX;have T:i<σ.length:=by
   have:=(vV (cl i hi)).1;omega
  refine⟨_,_,rfl,uw cl (λj hj=>hn j (mZ _ hj)) ⟨rp.tb,λj d b q=>?_⟩ hs e (by simpa using l1) (by simpa using l2) λG c f l=>k G c (λU z=>f U ⟨z.tb,λj d b q=>?_⟩) l⟩
  ·rcases cn q with⟨rfl,pp⟩|⟨ne,pp⟩
   ·cases pp
    exact⟨v,by simp[T],h⟩
   ·obtain⟨w,h1,h2⟩:=rp.at' j d b pp;exact⟨w,by rw[vB ne];exact h1,h2⟩
  ·obtain⟨w,h1,h2⟩:=z.at' j d b q;have ne:i≠j:=λz=>by subst z;rw[cl i hi]at q;cases q
   exact⟨w,by rw[vB ne];exact h1,h2⟩
def Ln {K:Frag}{n:Nat}{is:LN}(hn:∀i∈is,i<n):Le K n (DO is) (Me K is.length (qP is)):=by
 intro B H σ ρ G v d Q cl rep s h e hl k;cases h with
 |@tup a vs ds O hv=>
  have M:gZ is ds ρ=some G:=e;exact⟨a,vs,rfl,b7 s O,by rw[hv.length];exact ou M,uw cl hn rep hv M hl rfl k⟩
 |_=>cases e
end
section
variable {prog:Program}{w:World}{A:Around}{E:QV}{s:Shared}
def AJ (st:s.heap.IsTupleIter it l i)(G:s.heap.IsTuple l items)(hv:items[i]? = some v)
  (k:∀h',h'.IsTupleIter it l (i+1)->Heap.SameBut it s.heap h'->Q v { s with heap:=h' }):wpAny (model prog w) A (Builtin.SmallTypes.nextOf (.ref it)) Q E s:=by
 obtain⟨T,g1,M,d1⟩:=id st;obtain⟨U,O,_,n2,d2⟩:=G;unfold Builtin.SmallTypes.nextOf;refine wX (wpAny_callSpecial?_slot (name:=Str.ofString "__next__") st.typeIs slot_tuple_iterator_next (wpAny_call_entry slot_tuple_iterator_next st.typeIs PySem.F.entry_tuple_iterator_next ?_ (PySem.F.args_tuple_iterator_next_1 _)));show wpAny _ _ (field (.ref it) 0>>=_) _ _ _;refine wX (wpAny_field g1 d1 (x:=.ref l) rfl ?_);show wpAny _ _ (if(Value.ref l == Value.none)=true then _ else _) _ _ _;rw[if_neg (λz=>uX z:¬((Value.ref l == Value.none)=true))];show wpAny _ _ (field (.ref it) 1>>=_) _ _ _;refine wX (wpAny_field g1 d1 (x:=.int i 0) rfl ?_);show wpAny _ _ (seqItems? (.ref l)>>=_) _ _ _;refine wX (wpAny_seqItems O d2 ?_);simp only[hv,toNat_natCast];refine wX (wpAny_setField g1 d1 (by simp) (wY ⟨v,rfl,wY (k _ ?_ (vW ..))⟩));exact⟨_,Heap.get?_update_self _ g1 (Obj.isFreed_of_fields (Obj.data_mapFields d1 _)),(Obj.cls_mapFields ..).trans M,by rw[Obj.data_mapFields d1];simp[rawInt]⟩
def DP (G:A.handled=none)(st:s.heap.IsTupleIter it l i)(M:s.heap.IsTuple l items)(hv:items[i]? = none)
  (k:∀h' x,Heap.ExtBut it s.heap h'->(∃o,h'.get? x=some o/\o.cls=.type "StopIteration")->E (.ref x) { s with heap:=h' }):wpAny (model prog w) A (Builtin.SmallTypes.nextOf (.ref it)) Q E s:=by
 obtain⟨T,g1,U,d1⟩:=id st;obtain⟨b,O,_,n2,d2⟩:=M;unfold Builtin.SmallTypes.nextOf;refine wX (wpAny_callSpecial?_slot (name:=Str.ofString "__next__") st.typeIs slot_tuple_iterator_next (wpAny_call_entry slot_tuple_iterator_next st.typeIs PySem.F.entry_tuple_iterator_next ?_ (PySem.F.args_tuple_iterator_next_1 _)));show wpAny _ _ (field (.ref it) 0>>=_) _ _ _;refine wX (wpAny_field g1 d1 (x:=.ref l) rfl ?_);show wpAny _ _ (if(Value.ref l == Value.none)=true then _ else _) _ _ _;rw[if_neg (λz=>uX z:¬((Value.ref l == Value.none)=true))];show wpAny _ _ (field (.ref it) 1>>=_) _ _ _;refine wX (wpAny_field g1 d1 (x:=.int i 0) rfl ?_);show wpAny _ _ (seqItems? (.ref l)>>=_) _ _ _;refine wX (wpAny_seqItems O d2 ?_);simp only[hv,toNat_natCast];refine wX (wpAny_rule (wX (wpAny_setField g1 d1 (by simp) ?_)));show wpAny _ _ (newExc (.type "StopIteration") []>>=_) _ _ _;refine wX ?_;simp only[newTuple,newExc];refine wX (wpAny_newObj_type ?_ (by size_fits));refine wX (m:=firstArgMember _ _) (wpAny_of_eq (a:=Value.none) (by first|(simp only[firstArgMember];rfl)|rfl) ?_);refine wpAny_newObj_type ?_ (by size_fits);simp only[raiseNew];refine wX (wpAny_handled ?_);first|rw[G]|rw[show A.in1.handled=none from G]
 exact wX (wY (wpAny_throw (k _ _ (((vW ..).extBut.push _).push _) ⟨_,vY _ rfl,rfl⟩)))
end
def l5:Bool->Heap->Addr->Addr->Nat->Prop
 |true,h,it,a,i=>h.IsListIter it a i
 |false,h,it,a,i=>h.IsTupleIter it a i
def kF:Bool->Heap->Addr->AV->Prop
 |true,h,a,items=>h.IsList a items
 |false,h,a,items=>h.IsTuple a items
def mh (k:Bool)(K:Frag)(H:Hp)(a:Addr)(xs:LV):Prop:=match k with|true=>gN K H a xs|false=>iP K H a xs
def l5.ob (st:l5 k h it a i):∃o,h.get? it=some o/\∀v,o.data≠.cell v:=by
 cases k<;>(obtain⟨o,g,_,d⟩:=st;exact⟨o,g,λv z=>by rw[d]at z;cases z⟩)
def l5.upon (st:l5 k h it a i)(g:∀o,h.get? it=some o->h'.get? it=some o):l5 k h' it a i:=by
 cases k<;>(obtain⟨o,e,r⟩:=st;exact⟨o,g o e,r⟩)
def kF.upon (st:kF k h a items)(g:∀o,h.get? a=some o->h'.get? a=some o):kF k h' a items:=by
 cases k<;>(obtain⟨o,e,r⟩:=st;exact⟨o,g o e,r⟩)
def kF.lt (st:kF k h a items):a<h.objs.size:=by
 cases k<;>(obtain⟨o,e,r⟩:=st;exact vX e)
def mh.same {k:Bool}{K:Frag}{H H':Hp}{a:Addr}{xs:LV}(h:mh k K H a xs)(e:aU H H'):mh k K H' a xs:=by
 cases k
 ·exact b7 e h
 ·exact e.seq h
def mh.vals (I:Inv X ah σ H s)(h:mh k X.K H a xs):∃its:LU,bq xs its/\kF k s.heap a its.toArray/\xs.length<=sizeLine:=by
 cases k
 ·exact I.tuple h
 ·obtain⟨its,r,p,z⟩:=I.list h;exact⟨its,r,p.isList,z⟩
def mh.inj (I:Inv X ah σ H s)(h:mh k X.K H a xs)(h':mh k X.K H a ys):xs=ys:=by
 cases k
 ·exact I.tuple_inj h h'
 ·exact I.list_inj h h'
section
variable {prog:Program}{w:World}{A:Around}{E:QV}{s:Shared}
def gm (st:l5 k s.heap it l i)(G:kF k s.heap l items)(hv:items[i]? = some v)
  (q:∀h',l5 k h' it l (i+1)->Heap.SameBut it s.heap h'->Q v { s with heap:=h' }):wpAny (model prog w) A (Builtin.SmallTypes.nextOf (.ref it)) Q E s:=by
 cases k
 ·exact AJ st G hv q
 ·exact wpAny_nextOf_list_item st G hv q
def jv (G:A.handled=none)(st:l5 k s.heap it l i)(M:kF k s.heap l items)(hv:items[i]? = none)
  (q:∀h' x,Heap.ExtBut it s.heap h'->(∃o,h'.get? x=some o/\o.cls=.type "StopIteration")->E (.ref x) { s with heap:=h' }):wpAny (model prog w) A (Builtin.SmallTypes.nextOf (.ref it)) Q E s:=by
 cases k
 ·exact DP G st M hv q
 ·exact wpAny_nextOf_list_end G st M hv q
end
noncomputable def Ie (k:Bool)(l:Addr):Obj:={ cls:=.type (if k=true then "list_iterator" else "tuple_iterator"),data:=.fields #[.ref l,.int 0 0] }
def mR (G:kF k s.heap l items)
  (q:Q (.ref s.z) { s with heap:=s.heap.push (Ie k l) }):wpAny (model prog w) A (pyIter (.ref l)) Q E s:=by
 cases k
 ·exact wpAny_pyIter_tuple G q
 ·exact wpAny_pyIter_list G q
def kF.push (st:kF k h a items)(o:Obj):kF k (h.push o) a items:=st.upon λ_ e=>vZ _ e
section
variable (k1 k2:Bool) (h:Heap) (l1 l2:Addr)
abbrev zA:Heap:=h.push (Ie k1 l1)
abbrev zB:Heap:=(zA k1 h l1).push (Ie k2 l2)
abbrev zC:Heap:=(zB k1 k2 h l1 l2).push { cls:=.type "tuple",data:=.seq #[.ref h.objs.size,.ref (zA k1 h l1).objs.size] }
abbrev zD:Heap:=(zC k1 k2 h l1 l2).push { cls:=.type "tuple",data:=.seq #[.none,.none] }
abbrev zE:Heap:=(zD k1 k2 h l1 l2).push { cls:=.type "zip",data:=.fields #[.none,.bool false,.bool false,.ref (zB k1 k2 h l1 l2).objs.size,.ref (zC k1 k2 h l1 l2).objs.size] }
end
def AK (k1 k2:Bool)(l1 l2:Addr)(xs ys:AV):Meets (Builtin.«zip.__new__» ⟨[.type "zip",.ref l1,.ref l2],[]⟩) (λ_ R s=>kF k1 s.heap l1 xs/\kF k2 s.heap l2 ys /\
   R (.ok (.ret (.ref (zD k1 k2 s.heap l1 l2).objs.size))) { s with heap:=zE k1 k2 s.heap l1 l2 }) :=
 .of_wp λprog w A R s hs=>by
  obtain⟨hp,g,d,tk,os⟩:=s;obtain⟨M,O,hs⟩:=hs;have G:=sub_zip;have T:kF k1 (Shared.heap ⟨hp,g,d,tk,os⟩) l1 xs:=M;have p2:kF k2 (Shared.heap ⟨hp.push (Ie k1 l1),g,d,tk,os⟩) l2 ys:=kF.push O _;wp_walk using mR T,mR p2;exact⟨_,rfl,hs⟩
section
variable {prog:Program}{w:World}{A:Around}{E:QV}{s:Shared}
def Cg (f:kF k1 s.heap l1 xs)(g:kF k2 s.heap l2 ys)
  (q:∀h',IsZip h' (s.z+4) (s.z+2) (s.z+3) .none->IsPair h' (s.z+2) (.ref s.z) (.ref (s.z+1))->IsPair h' (s.z+3) .none .none ->
   l5 k1 h' s.z l1 0->l5 k2 h' (s.z+1) l2 0->(∀c o,s.heap.get? c=some o->h'.get? c=some o)->Q (.ref (s.z+4)) { s with heap:=h' }):
  wpAny (model prog w) A (call (.type "zip") [.ref l1,.ref l2]) Q E s:=by
 refine callType_new PySem.F.called_zip (by decide) (PySem.F.typeCall_zip_2 _ _) (PySem.F.newCall_zip_2 _ _) (λobj=>PySem.F.args_object_init_3 obj _ _) PySem.F.entry_zip_new (AK k1 k2 l1 l2 xs ys) ⟨f,g,?_⟩;have n1:(zA k1 s.heap l1).objs.size=s.z+1:=Heap.size_push ..;have n2:(zB k1 k2 s.heap l1 l2).objs.size=s.z+2:=by rw[Heap.size_push,n1]
 have n3:(zC k1 k2 s.heap l1 l2).objs.size=s.z+3:=by rw[Heap.size_push,n2]
 have n4:(zD k1 k2 s.heap l1 l2).objs.size=s.z+4:=by rw[Heap.size_push,n3]
 have M:∀ {c o},(zD k1 k2 s.heap l1 l2).get? c=some o->(zE k1 k2 s.heap l1 l2).get? c=some o:=λe=>vZ _ e;have O:∀ {c o},(zC k1 k2 s.heap l1 l2).get? c=some o->(zE k1 k2 s.heap l1 l2).get? c=some o:=λe=>M (vZ _ e);have T:∀ {c o},(zB k1 k2 s.heap l1 l2).get? c=some o->(zE k1 k2 s.heap l1 l2).get? c=some o:=λe=>O (vZ _ e);have U:∀ {c o},(zA k1 s.heap l1).get? c=some o->(zE k1 k2 s.heap l1 l2).get? c=some o:=λe=>T (vZ _ e);have h:∀ {c o},s.heap.get? c=some o->(zE k1 k2 s.heap l1 l2).get? c=some o:=λe=>U (vZ _ e);have G:(zE k1 k2 s.heap l1 l2).get? (zD k1 k2 s.heap l1 l2).objs.size=some _:=vY _ rfl;have a:(zE k1 k2 s.heap l1 l2).get? (zC k1 k2 s.heap l1 l2).objs.size=some _:=M (vY _ rfl);have b:(zE k1 k2 s.heap l1 l2).get? (zB k1 k2 s.heap l1 l2).objs.size=some _:=O (vY _ rfl);have d:(zE k1 k2 s.heap l1 l2).get? (zA k1 s.heap l1).objs.size=some _:=T (vY _ (by cases k2<;>rfl))
 have g1:(zE k1 k2 s.heap l1 l2).get? s.z=some _:=U (vY _ (by cases k1<;>rfl))
 rw[n2,n3,n4]at G;rw[n1,n2]at b;rw[n3]at a;rw[n1]at d;show _/\_;rw[n4];refine⟨⟨_,G,rfl⟩,q _ G b a ?_ ?_ λc o e=>h e⟩
 ·cases k1<;>exact⟨_,g1,rfl,rfl⟩
 ·cases k2<;>exact⟨_,d,rfl,rfl⟩
structure ZApart (z TI TO i1 i2:Addr):Prop where
 tz:TI≠z
 oz:TO≠z
 az:i1≠z
 bz:i2≠z
 oa:TO≠i1
 ob:TO≠i2
 to:TI≠TO
 ta:TI≠i1
 tb:TI≠i2
 ab:i1≠i2
def yF {k1 k2:Bool}{z TI TO i1 i2 l1 l2:Addr}{j:Nat}{xs ys:AV}{x y a b:Value}{Q:QV}(D:ZApart z TI TO i1 i2)(m1:l1≠z/\l1≠TO/\l1≠i1)(m2:l2≠z/\l2≠TO/\l2≠i1/\l2≠i2)
  (hz:IsZip s.heap z TI TO .none) (P:IsPair s.heap TI (.ref i1) (.ref i2)) (R:IsPair s.heap TO a b) (S:l5 k1 s.heap i1 l1 j) (V:l5 k2 s.heap i2 l2 j) (W:kF k1 s.heap l1 xs) (X:kF k2 s.heap l2 ys) (hx:xs[j]? = some x) (hy:ys[j]? = some y)
  (q:∀h',IsZip h' z TI TO (rawInt s.z)->IsPair h' TO x y->l5 k1 h' i1 l1 (j+1)->l5 k2 h' i2 l2 (j+1)->IsPair h' s.z x y->h'.objs.size=s.z+1 ->
   (∀c o,c≠z->c≠TO->c≠i1->c≠i2->s.heap.get? c=some o->h'.get? c=some o)->Q (.ref s.z) { s with heap:=h' }):
  wpAny (model prog w) A (Builtin.«zip.__next__» ⟨[.ref z],[]⟩) (λiO s'=>∃v,iO=.done (.ret v)/\Q v s') E s:=by
 show wpAny _ _ (field (.ref z) 2>>=_) _ _ s;refine wX (wpAny_field hz rfl (x:=.bool false) rfl ?_);show wpAny _ _ (field (.ref z) 3>>=_) _ _ s;refine wX (wpAny_field hz rfl (x:=.ref TI) rfl (wX (wpAny_seqItems P rfl ?_)));show wpAny _ _ (Builtin.SmallTypes.ownedTupleIsFree (.ref z)>>=_) _ _ s;refine wX ?_;unfold Builtin.SmallTypes.ownedTupleIsFree;refine wX (wpAny_field hz rfl (x:=.none) rfl (wY ?_));simp only[if_true];refine wX (wpAny_rule (wX (wpAny_field hz rfl (x:=.ref TO) rfl (wX (wpAny_setField_rec hz (by simp) λg1 d s1=>?_)))));replace d:IsZip g1 z TI TO .ellipsis:=d;refine wX ?_;simp only[forIn_cons,forIn_nil,List.zipIdx_cons,List.zipIdx_nil];refine wX (wX (wpAny_onRaise ?_));show wpAny _ _ (Builtin.SmallTypes.nextOf (.ref i1)>>=_) _ _ { s with heap:=g1 };refine wX (gm (s:={ s with heap:=g1 }) (S.upon λo e=>s1.extBut _ _ D.az e) (W.upon λo e=>s1.extBut _ _ m1.1 e) hx λY r s2=>wY ?_);have H:IsPair Y TO a b:=s2.extBut _ _ D.oa (s1.extBut _ _ D.oz R);refine wX (wpAny_seqItems H rfl (wX (wpAny_updateSeq_pair H λn f p=>?_)));replace f:IsPair n TO x b:=f;refine wX (wpAny_letGo (wY (wX (wX (wpAny_onRaise ?_)))));show wpAny _ _ (Builtin.SmallTypes.nextOf (.ref i2)>>=_) _ _ { s with heap:=n };have t:∀ {c o},c≠z->c≠TO->c≠i1->s.heap.get? c=some o->n.get? c=some o:=λM h i e=>p.extBut _ _ h (s2.extBut _ _ i (s1.extBut _ _ M e));refine wX (gm (s:={ s with heap:=n }) (V.upon λo e=>t D.bz D.ob.symm D.ab.symm e) (X.upon λo e=>t m2.1 m2.2.1 m2.2.2.1 e) hy λZ u k=>wY ?_);have I:IsPair Z TO x b:=k.extBut _ _ D.ob f;refine wX (wpAny_seqItems I rfl (wX (wpAny_updateSeq_pair I λG O l=>?_)));replace O:IsPair G TO x y:=O;refine wX (wpAny_letGo (wY (wY (wX (wpAny_seqItems O rfl (wX (wpAny_newTuple ?_)))))));have sz:G.objs.size=s.z:=by rw[l.1,k.1,p.1,s2.1,s1.1]
 have WT:∀c o,c≠z->c≠TO->c≠i1->c≠i2->s.heap.get? c=some o->G.get? c=some o:=λc o M h i B e=>l.extBut _ _ h (k.extBut _ _ B (t M h i e));have J:IsZip G z TI TO .ellipsis:=l.extBut _ _ D.oz.symm (k.extBut _ _ D.bz.symm (p.extBut _ _ D.oz.symm (s2.extBut _ _ D.az.symm d)));have WU:l5 k1 G i1 l1 (j+1):=r.upon λo e=>l.extBut _ _ D.oa.symm (k.extBut _ _ D.ab (p.extBut _ _ D.oa.symm e));have WV:l5 k2 G i2 l2 (j+1):=u.upon λo e=>l.extBut _ _ D.ob.symm e;have K:z<G.objs.size:=vX J;show wpAny _ _ (Builtin.SmallTypes.ownedTupleHandOut (.ref z) (.ref G.objs.size)>>=_) _ _ { s with heap:=G.push { cls:=.type "tuple",data:=.seq #[x,y] } };refine wX ?_;unfold Builtin.SmallTypes.ownedTupleHandOut;have WW:IsZip (G.push { cls:=.type "tuple",data:=.seq #[x,y] }) z TI TO .ellipsis:=vZ _ J;refine wX (wpAny_setField_rec WW (by simp) λg7 g C=>?_);replace g:IsZip g7 z TI TO (rawInt G.objs.size):=g;refine wpAny_setField_rec g (by simp) λm T F=>?_;replace T:IsZip m z TI TO (rawInt G.objs.size):=T;have U:∀c o,c≠z->G.get? c=some o->m.get? c=some o:=λc o M e=>F.extBut _ _ M (C.extBut _ _ M (vZ _ e));have L:IsPair m G.objs.size x y:=F.extBut _ _ (ne_of_gt K) (C.extBut _ _ (ne_of_gt K) (vY _ rfl));have N:m.objs.size=G.objs.size+1:=by rw[F.1,C.1,Heap.size_push]
 rw[sz]at T L N;refine wY ⟨_,rfl,?_⟩;show Q (.ref G.objs.size) _;rw[sz];exact q m T (U _ _ D.oz O) (WU.upon λo e=>U _ o D.az e) (WV.upon λo e=>U _ o D.bz e) L N λc o M h i B e=>U c o M (WT c o M h i B e)
end
section
variable {prog:Program}{w:World}{A:Around}{E:QV}{s:Shared}
def Ch {k1 k2:Bool}{z TI TO i1 i2 l1 l2:Addr}{j:Nat}{xs ys:AV}{a b:Value}{Q:PySem.Fin->Shared->Prop}(p:A.handled=none)(D:ZApart z TI TO i1 i2)(m1:l1≠z/\l1≠TO/\l1≠i1)(m2:l2≠z/\l2≠TO/\l2≠i1/\l2≠i2)
  (hz:IsZip s.heap z TI TO .none) (H:IsPair s.heap TI (.ref i1) (.ref i2)) (I:IsPair s.heap TO a b) (r:l5 k1 s.heap i1 l1 j) (J:l5 k2 s.heap i2 l2 j) (t:kF k1 s.heap l1 xs) (K:kF k2 s.heap l2 ys) (he:xs[j]? = none\/ys[j]? = none)
  (q:∀h' x,(∀c o,c≠z->c≠TO->c≠i1->c≠i2->s.heap.get? c=some o->h'.get? c=some o)->(∃o,h'.get? x=some o/\o.cls=.type "StopIteration")->E (.ref x) { s with heap:=h' }):
  wpAny (model prog w) A (Builtin.«zip.__next__» ⟨[.ref z],[]⟩) Q E s:=by
 show wpAny _ _ (field (.ref z) 2>>=_) _ _ s;refine wX (wpAny_field hz rfl (x:=.bool false) rfl ?_);show wpAny _ _ (field (.ref z) 3>>=_) _ _ s;refine wX (wpAny_field hz rfl (x:=.ref TI) rfl (wX (wpAny_seqItems H rfl ?_)));show wpAny _ _ (Builtin.SmallTypes.ownedTupleIsFree (.ref z)>>=_) _ _ s;refine wX ?_;unfold Builtin.SmallTypes.ownedTupleIsFree;refine wX (wpAny_field hz rfl (x:=.none) rfl (wY ?_));simp only[if_true];refine wX (wpAny_rule (wX (wpAny_field hz rfl (x:=.ref TO) rfl (wX (wpAny_setField_rec hz (by simp) λg1 G s1=>?_)))));replace G:IsZip g1 z TI TO .ellipsis:=G;refine wX ?_;simp only[forIn_cons,forIn_nil,List.zipIdx_cons,List.zipIdx_nil];refine wX (wX (wpAny_onRaise ?_));show wpAny _ _ (Builtin.SmallTypes.nextOf (.ref i1)>>=_) _ _ { s with heap:=g1 };cases hx:xs[j]? with
 |none=>
  refine wX (jv (s:={ s with heap:=g1 }) p (r.upon λo e=>s1.extBut _ _ D.az e) (t.upon λo e=>s1.extBut _ _ m1.1 e) hx λi x s2 hX=>?_);obtain⟨k,M,U⟩:=hX;have u:IsZip i z TI TO .ellipsis:=s2 _ _ D.az.symm G;have l:x≠z:=λm=>by subst m;rw[u]at M;cases M;simp at U
  exact wpAny_setField_rec u (by simp) λd _ f=>q d x (λc o O _ g _ e=>f.extBut _ _ O (s2 _ _ g (s1.extBut _ _ O e))) ⟨k,f.extBut _ _ l M,U⟩
 |some v=>
  have hy:ys[j]? = none:=by
   rcases he with h|h
   ·rw[hx]at h;cases h
   ·exact h
  refine wX (gm (s:={ s with heap:=g1 }) (r.upon λo e=>s1.extBut _ _ D.az e) (t.upon λo e=>s1.extBut _ _ m1.1 e) hx λi L s2=>wY ?_);have y:IsPair i TO a b:=s2.extBut _ _ D.oa (s1.extBut _ _ D.oz I);refine wX (wpAny_seqItems y rfl (wX (wpAny_updateSeq_pair y λd N f=>?_)));refine wX (wpAny_letGo (wY (wX (wX (wpAny_onRaise ?_)))));show wpAny _ _ (Builtin.SmallTypes.nextOf (.ref i2)>>=_) _ _ { s with heap:=d };have T:∀ {c o},c≠z->c≠TO->c≠i1->s.heap.get? c=some o->d.get? c=some o:=λO n g e=>f.extBut _ _ n (s2.extBut _ _ g (s1.extBut _ _ O e));refine wX (jv (s:={ s with heap:=d }) p (J.upon λo e=>T D.bz D.ob.symm D.ab.symm e) (K.upon λo e=>T m2.1 m2.2.1 m2.2.2.1 e) hy λP x B hX=>?_);obtain⟨k,M,U⟩:=hX;have C:IsZip P z TI TO .ellipsis:=B _ _ D.bz.symm (f.extBut _ _ D.oz.symm (s2.extBut _ _ D.az.symm G));have l:x≠z:=λm=>by subst m;rw[C]at M;cases M;simp at U
  exact wpAny_setField_rec C (by simp) λR _ F=>q R x (λc o O n g S e=>F.extBut _ _ O (B _ _ S (T O n g e))) ⟨k,F.extBut _ _ l M,U⟩
end
def jK {X:Cx}{ah:AO}{σ:St}{H:Hp}{s:Shared}{h':Heap}{t':Nat}{ch:List Addr}(I:Inv X ah σ H s)(f:∀b∈ch,md X ah H b)(k:∀b o,b∉ch->s.heap.get? b=some o->h'.get? b=some o):Inv X ah σ H { s with heap:=h',toks:=t' }:=by
 have G:∀b u,H b=some u->b∉ch:=λb u e z=>by rw[(f b z).1]at e;cases e
 refine I.step (g':=s.gens) (d':=s.drawn) (ch:=ch) (λb hb=>?_) (λb o _ _ hc e _=>k b o hc e) (λb o _ _ hc e _=>⟨o.slots,k b o hc e⟩) (λ_ _ _ _ n=>n)
  (λb o hc e=>⟨o,k b o hc e⟩) (λ_ _ e=>e) (λ_ _ _ e=>e) (λ_ _ e=>e) (λm hm=>?_) (λb u e=>?_) I.bare
 ·obtain⟨_,f1,_,f3,f4,f5⟩:=f b hb;exact⟨f3,f1,f4,f5⟩
 ·obtain⟨o,es,M,O,r⟩:=hm;exact⟨o,es,M,k _ o (λz=>(f _ z).2.1 rfl) O,r⟩
 ·refine(I.hok b u e).stay (λc v hc q=>k c v ?_ q) (λ_ q=>q) (λ_ _ q=>q) λ_ _ _ q=>q;rcases hc with z|z
  ·rw[z];exact G b u e
  ·exact G c _ z
def Ci {X:Cx}{ah:AO}{σ:St}{H:Hp}{s:Shared}{h':Heap}{t':Nat}{ch:List Addr}{a:Addr}{ob:HO}(I:Inv X ah σ H s)(f:∀b∈ch,md X ah H b)(k:∀b o,b∉ch->s.heap.get? b=some o->h'.get? b=some o)(ha:s.z<=a)
  (new:bI X.prog X.w (upd H a ob) h' a ob):Inv X ah σ (upd H a ob) { s with heap:=h',toks:=t' }:=by
 have hn:H a=none:=I.hok.fresh ha;have G:∀b u,H b=some u->b∉ch:=λb u e z=>by rw[(f b z).1]at e;cases e
 have M:∀b o,s.heap.get? b=some o->b≠a:=λb o e=>vS (vQ (vX e) ha);refine I.step (g':=s.gens) (d':=s.drawn) (ch:=ch) (λb hb=>?_) (λb o _ _ hc e _=>k b o hc e) (λb o _ _ hc e _=>⟨o.slots,k b o hc e⟩) (λb o _ e n=>by rw[aG (M b o e)];exact n)
  (λb o hc e=>⟨o,k b o hc e⟩) (λb xs e=>by rw[aG (bg e hn)];exact e) (λb o u e=>by rw[aG (bg e hn)];exact e) (λb ps e=>by rw[aG (bg e hn)];exact e) (λm hm=>?_) (λb u e=>?_) I.bare
 ·obtain⟨_,f1,_,f3,f4,f5⟩:=f b hb;exact⟨f3,f1,f4,f5⟩
 ·obtain⟨o,es,O,T,r⟩:=hm;exact⟨o,es,O,k _ o (λz=>(f _ z).2.1 rfl) T,r⟩
 ·by_cases hb:b=a
  ·subst hb;rw[aB]at e;cases e;exact new
  ·rw[aG hb]at e;refine(I.hok b u e).stay (λc v hc q=>k c v ?_ q) (λc q=>?_) (λc xs q=>?_) λc o xs q=>?_
   ·rcases hc with z|z
    ·rw[z];exact G b u e
    ·exact G c _ z
   ·rw[aG (bg q hn)];exact q
   ·rw[aG (bg q hn)];exact q
   ·rw[aG (bg q hn)];exact q
noncomputable def Sa (K:Frag)(k1 k2:Bool)(G M:Addr):It :=
  ⟨λi H=>∃xs ys x y,mh k1 K H G xs/\mh k2 K H M ys/\xs[i]? = some x/\ys[i]? = some y,
   λi H v H'=>∃T x y,v=.ref T/\H T=none/\H'=upd H T (.tup [x,y])/\(∀xs,mh k1 K H G xs->xs[i]? = some x)/\(∀ys,mh k2 K H M ys->ys[i]? = some y),
   λi H=>∃xs ys,mh k1 K H G xs/\mh k2 K H M ys/\(xs.length<=i\/ys.length<=i)⟩
def FU {P:Program}{w:World}{K:Frag}{es:QD}{F:Nat}{pt:Pos}{k1 k2:Bool}{g f z TI TO i1 i2:Addr}(D:ZApart z TI TO i1 i2)(m1:g≠z/\g≠TO/\g≠i1)(m2:f≠z/\f≠TO/\f≠i1/\f≠i2):
  Turn P w K (.Tuple es F pt) (Sa K k1 k2 g f) [z,TI,TO,i1,i2] z (λi h=>IsZip h z TI TO .none/\IsPair h TI (.ref i1) (.ref i2)/\(∃a b,IsPair h TO a b)/\l5 k1 h i1 g i/\l5 k2 h i2 f i) where
 mem:=by simp
 obj:=λi h st b hb=>by
  obtain⟨hz,M,⟨a,c,O⟩,U,d⟩:=st;simp at hb;rcases hb with rfl|rfl|rfl|rfl|rfl
  ·exact⟨_,hz,λv z=>by cases z⟩
  ·exact⟨_,M,λv z=>by cases z⟩
  ·exact⟨_,O,λv z=>by cases z⟩
  ·exact U.ob
  ·exact d.ob
 keep:=λi h h' st k=>by
  obtain⟨hz,M,⟨a,c,O⟩,U,d⟩:=st;exact⟨k z (by simp) _ hz,k TI (by simp) _ M,⟨a,c,k TO (by simp) _ O⟩,U.upon λo e=>k i1 (by simp) o e,d.upon λo e=>k i2 (by simp) o e⟩
 item:=by
  intro X n hw p hc i ah s σ H E I hf st r;subst n hw p;obtain⟨hz,M,⟨a,c,O⟩,U,d⟩:=st;obtain⟨xs,ys,x,y,l,m,hx,hy⟩:=r;obtain⟨its,t,A,J⟩:=l.vals I;obtain⟨L,B,p2,N⟩:=m.vals I;obtain⟨u,hu,ru⟩:=t.get hx;obtain⟨v,hv,Q⟩:=B.get hy;have j:s.TypeIs (.ref z) "zip":=⟨_,hz,rfl⟩;have fresh:H s.z=none:=I.hok.fresh (vT _);have lt:∀ {c o},s.heap.get? c=some o->c≠s.z:=λe=>vS (vX e);have l1:i1≠s.z:=by obtain⟨o,e,_⟩:=U.ob;exact lt e
  have l2:i2≠s.z:=by obtain⟨o,e,_⟩:=d.ob;exact lt e
  unfold pyNext;refine wX (wpAny_attempt (wpAny_callSpecial?_slot (name:=Str.ofString "__next__") j slot_zip_next (wpAny_call_entry slot_zip_next j entry_zip_next (yF D m1 m2 hz M O U d A p2 (by simpa using hu) (by simpa using hv) λh' b1 b2 b3 b4 R Z bk=>wY ?_) (args_zip_next_1 _))));refine⟨_,rfl,wpAny_letOwnedTupleGo_zip (s:={ s with heap:=h' }) b1 λh2 S s2=>?_⟩;have G:Heap.SameBut z h' h2:=s2;have C:∀b o,b∉[z,TI,TO,i1,i2]->s.heap.get? b=some o->h2.get? b=some o:=λb o hb e=>
   G.extBut _ _ (λq=>hb (by simp[q])) (bk b o (λq=>hb (by simp[q])) (λq=>hb (by simp[q])) (λq=>hb (by simp[q])) (λq=>hb (by simp[q])) e)
  have I1:Inv X ah σ H { s with heap:=h2 }:=jK (t':=s.toks) I hf C;have V:s.z≠z:=(lt hz).symm;have new:bI X.prog X.w (upd H s.z (.tup [x,y])) h2 s.z (.tup [x,y]):=⟨by show 2<=sizeLine;decide,[u,v],.cons ru (.cons Q .nil),⟨_,G.extBut _ _ V R,rfl,_,rfl⟩⟩;refine⟨.ref s.z,upd H s.z (.tup [x,y]),?_,rfl,⟨_,x,y,rfl,fresh,rfl,λzs hq=>by rw[mh.inj I hq l];exact hx,λzs hq=>by rw[mh.inj I hq m];exact hy⟩,?_,λb hb=>?_⟩
  ·exact Ci (s:=s) (t':=s.toks) I hf C (vT _) new
  ·exact⟨S,G.extBut _ _ D.tz (bk _ _ D.tz D.to D.ta D.tb M),⟨_,_,G.extBut _ _ D.oz b2⟩,b3.upon λo e=>G.extBut _ _ D.az e,b4.upon λo e=>G.extBut _ _ D.bz e⟩
  ·have W:b≠s.z:=by
    simp at hb;rcases hb with rfl|rfl|rfl|rfl|rfl
    ·exact lt hz
    ·exact lt M
    ·exact lt O
    ·exact l1
    ·exact l2
   rw[aG W];exact(hf b hb).1
 done:=by
  intro X n hw p hc i ah s σ H E I hf st r;subst n hw p;obtain⟨hz,M,⟨a,c,O⟩,U,d⟩:=st;obtain⟨xs,ys,l,m,hl⟩:=r;obtain⟨its,t,A,J⟩:=l.vals I;obtain⟨L,B,p2,N⟩:=m.vals I;have j:s.TypeIs (.ref z) "zip":=⟨_,hz,rfl⟩;have n1:=t.length;have n2:=B.length;unfold pyNext;refine wX (wpAny_attempt (wpAny_callSpecial?_slot (name:=Str.ofString "__next__") j slot_zip_next (wpAny_call_entry slot_zip_next j entry_zip_next (Ch (I.ok.hd hc) D m1 m2 hz M O U d A p2 (hl.imp (λq=>by simp;omega) λq=>by simp;omega) λh' x hk hX=>?_) (args_zip_next_1 _))));obtain⟨o,Y,co⟩:=hX;refine wX (wpAny_isInstance (T:="StopIteration") (b:=true) ⟨o,Y,co⟩ isSubtype_stop (wY ⟨rfl,?_⟩));exact jK (t':=s.toks) I hf λb o hb e=>hk b o (λq=>hb (by simp[q])) (λq=>hb (by simp[q])) (λq=>hb (by simp[q])) (λq=>hb (by simp[q])) e
 self:=λ_ _ _ _ _ st h=>wpAny_pyIter_zip st.1 h
section
variable {X:Cx}{a b e:Expr}{pos:Pos}{p:Pos}
def Lo:bootBuiltins "zip" = some (.type "zip"):=by decide +kernel
def Pu (K:Frag)(ta:TA):TI:=λσ H R=>ta σ H λvs G=>∃(k1 k2:Bool)(l1 l2:Addr)(xs ys:LV),vs=[.ref l1,.ref l2]/\mh k1 K G l1 xs/\mh k2 K G l2 ys/\R (Sa K k1 k2 l1 l2) G
def MJ {es:QD}{f:Nat}{pt:Pos}{ta:TA}(g:Gl X "zip")(hm:X.mg "zip" = none)(ha:PA X [a,b] ta)(hs:starEach [a,b] X.env=[(false,eval a X.env),(false,eval b X.env)]:=by rfl)(O:starEach [b] X.env=[(false,eval b X.env)]:=by rfl):
  PI X (.Tuple es f pt) (.Call (.Name "zip" p) [a,b] [] pos) (Pu X.K ta):=by
 intro ah s σ H R I h;refine Call_ (io I g hm Lo (PyProof.Rows.callWith_type1 (cA (ha pos ah s σ H _ I h) λus s1 ⟨vs,i,T,j,k⟩=>?_) (by rw[hs,O]) (by rw[O];rfl)));obtain⟨k1,k2,l1,l2,xs,ys,rfl,h1,h2,q⟩:=k;obtain⟨x,y,rfl,m,o⟩:=j.two;cases m
 cases o
 obtain⟨its,A,c,B⟩:=h1.vals T;obtain⟨C,E,p2,F⟩:=h2.vals T;have EQ:=c.lt;have G:=p2.lt;refine Cg c p2 λh' d r t u v w=>?_;have D:ZApart (s1.z+4) (s1.z+2) (s1.z+3) s1.z (s1.z+1):=by
  constructor<;>(intro z;exact absurd z (by first|exact vS (Nat.add_lt_add_left (by decide) _)|exact ne_of_gt (Nat.add_lt_add_left (by decide) _)|exact vS (Nat.lt_add_of_pos_right (by decide))|exact ne_of_gt (Nat.lt_add_of_pos_right (by decide))))
 have M:∀ {l:Addr}(n:Nat),l<s1.z->l≠s1.z+n:=λn hl=>vS (vQ hl (le_add_right _ n));refine wpAny_pyIter_zip d ⟨s1.z+4,[s1.z+4,s1.z+2,s1.z+3,s1.z,s1.z+1],_,_,i,rfl,T.kept (t':=s1.toks) w,
  FU D ⟨M 4 EQ,M 3 EQ,M 0 EQ⟩ ⟨M 4 G,M 3 G,M 0 G,M 1 G⟩,⟨d,r,⟨_,_,t⟩,u,v⟩,λb hb=>?_,q⟩
 have U:s1.z<=b:=by
  simp at hb;rcases hb with rfl|rfl|rfl|rfl|rfl
  ·exact le_add_right _ 4
  ·exact le_add_right _ 2
  ·exact le_add_right _ 3
  ·exact vT _
  ·exact le_add_right _ 1
 exact T.fpOk U (T.hok.fresh U)
noncomputable def jh (xs ys:LD):LD:=List.zipWith (λx y=>.tup [x,y]) xs ys
@[simp] def FV (fa G:FE):FA:=λρ=>(fa ρ).bind λx=>(G ρ).bind λy=>(gd x.1).bind λxs=>(gd y.1).map λys=>jh xs ys
def yG {K:Frag}{B:Hp}{v:V}{d:D}{ds:LD}(h:Is K B v d)(e:gd d=some ds):∃k a vs,v=.ref a/\mh k K B a vs/\IsL K B vs ds:=by
 cases h with
 |tup G hl=>cases e;exact⟨false,_,_,rfl,G,hl⟩
 |lst G hl=>cases e;exact⟨true,_,_,rfl,G,hl⟩
 |_=>cases e
def ML {H s}(I:Inv X ah σ H s)(h1:mh k1 X.K N l1 vs)(i1:IsL X.K N vs ds)(h2:mh k2 X.K N l2 ws)(i2:IsL X.K N ws es):mO X.K (Sa X.K k1 k2 l1 l2) N (jh ds es):=by
 intro i H' G;have n1:=i1.length;have n2:=i2.length;refine⟨λd ed=>?_,λhl=>⟨vs,ws,h1.same G,h2.same G,?_⟩⟩
 ·unfold jh at ed;rw[List.getElem?_zipWith]at ed;cases M:ds[i]? with
  |none=>rw[M]at ed;simp at ed
  |some x=>
   cases e2:es[i]? with
   |none=>rw[M,e2]at ed;simp at ed
   |some y=>
    rw[M,e2]at ed;simp at ed;subst ed;obtain⟨v,U,iv⟩:=i1.get M;obtain⟨w,c,h⟩:=i2.get e2;refine⟨⟨vs,ws,v,w,h1.same G,h2.same G,U,c⟩,λr H2 hy=>?_⟩;obtain⟨T,k,l,rfl,j,rfl,f1,f2⟩:=hy;have f:=f1 vs (h1.same G);have g:=f2 ws (h2.same G);rw[U]at f;cases f;rw[c]at g;cases g;have O:=Ext.laid (o:=.tup [v,w]) G j;exact⟨_,O,.tup (iP.of aB) (.cons (iv.mono O.bn) (.cons (h.mono O.bn) .nil))⟩
 ·unfold jh at hl;rw[List.length_zipWith]at hl;omega
def FW {es:QD}{f:Nat}{pt:Pos}{fa d:FE}(hm:X.mg "zip" = none)(ha:JE X a fa)(hb:JE X b d)(g:Gl X "zip":=by rfl)(hs:starEach [a,b] X.env=[(false,eval a X.env),(false,eval b X.env)]:=by rfl)(M:starEach [b] X.env=[(false,eval b X.env)]:=by rfl):
  JI X (.Tuple es f pt) (.Call (.Name "zip" p) [a,b] [] pos) (FV fa d):=by
 intro ah s σ H R I q;refine MJ g hm (ai ha (ai hb ao M) (by rw[hs,M])) hs M ah s σ H R I ?_;obtain⟨B,ρ,ds,h,r,G,q⟩:=q;obtain⟨i,ex,G⟩:=oX G;obtain⟨j,k,G⟩:=oX G;obtain⟨xs,O,G⟩:=oX G;obtain⟨ys,T,G⟩:=oY G;subst G;refine⟨B,ρ,[i.1,j.1],h,r,by simp[ag,aj,ex,k],λvs l N1 U i1=>?_⟩;cases i1 with
 |cons m c=>
  cases c with
  |cons c n=>
   cases n
   obtain⟨k1,l1,us,rfl,s1,m1⟩:=yG m O;obtain⟨k2,l2,o,rfl,s2,m2⟩:=yG c T;exact⟨k1,k2,l1,l2,us,o,rfl,s1.same U.nh,s2.same U.nh,q _ l N1 U (ML I s1 m1 s2 m2)⟩
end
noncomputable def unown1 (ρ:Env)(i:Nat):Env:=match ρ[i]? with
 |some (some (d,true))=>ρ.set i (some (d,false))
 |_=>ρ
def dR.unown1 {K:Frag}{B0 H0 N H:Hp}{σ:St}{ρ:Env}(s:dR K B0 H0 N H σ ρ)(i:Nat):dR K B0 H0 N H σ (unown1 ρ i):=by
 unfold DL.unown1;split
 ·rename_i d hd;obtain⟨a,ob,h1,h2,h3,h4⟩:=s.ow i d hd;have get:∀ {j:Nat}{e:D}{b:Bool},(ρ.set i (some (d,false)))[j]? = some (some (e,b))->(i=j/\e=d/\b=false)\/(i≠j/\ρ[j]? = some (some (e,b))):=λq=>by
   rcases cn q with⟨z,p⟩|⟨z,p⟩
   ·cases p;exact .inl ⟨z,rfl,rfl⟩
   ·exact .inr ⟨z,p⟩
  have o:∀c,own σ (ρ.set i (some (d,false))) c->own σ ρ c/\c≠a:=λc ⟨j,e,O,M⟩=>by
   rcases get O with⟨_,_,z⟩|⟨ne,q⟩
   ·cases z
   ·exact⟨⟨j,e,q,M⟩,λz=>by subst z;exact ne (s.inj i j _ _ _ hd q h1 M)⟩
  have c:aU (dP N (own σ ρ)) (dP N (own σ (ρ.set i (some (d,false))))):=eW λb u e q=>⟨e,λz=>q (o b z).1⟩;have T:¬own σ (ρ.set i (some (d,false))) a:=λz=>(o a z).2 rfl;refine⟨s.bh,s.tb,s.ext,by rw[length_set];exact s.len,λj e q=>?_,λj e q=>?_,λj k b e f q G U g=>?_⟩
  ·rcases get q with⟨rfl,rfl,_⟩|⟨_,q⟩
   ·exact⟨_,h1,(h4.mono c).is (by rw[cP T];exact h2)⟩
   ·obtain⟨v,k1,k2⟩:=s.sh j e q;exact⟨v,k1,k2.mono c⟩
  ·rcases get q with⟨_,_,z⟩|⟨_,q⟩
   ·cases z
   ·obtain⟨h,o',k1,k2,k3,k4⟩:=s.ow j e q;exact⟨h,o',k1,k2,k3,k4.mono c⟩
  ·rcases get q with⟨_,_,z⟩|⟨_,q⟩
   ·cases z
   ·rcases get G with⟨_,_,z⟩|⟨_,G⟩
    ·cases z
    ·exact s.inj j k b e f q G U g
 ·exact s
@[simp] noncomputable def Jl (is:LN)(g:FS):FS:=λρ=>g (is.foldl unown1 ρ)
theorem dR.unowns {K:Frag}{B0 H0 N H:Hp}{σ:St}:∀(is:LN){ρ:Env},dR K B0 H0 N H σ ρ->dR K B0 H0 N H σ (is.foldl DL.unown1 ρ)
 |[],_,s=>s
 |i::is,_,s=>dR.unowns is (s.unown1 i)
def MN {K:Frag}{is:LN}{g:FS}{E:Ends}{σ:St}{H:Hp}(q:nZ K (Jl is g) E σ H):nZ K g E σ H:=by
 obtain⟨B0,H0,ρ,r,⟨N,s⟩,e,p⟩:=q;exact⟨B0,H0,_,r,⟨N,s.unowns is⟩,e,p⟩
def yH {X:Cx}{st:Stmt}{g:FS}(is:LN)(h:JS X st g):JS X st (Jl is g):=PS.to h λ_ _ _ q=>MN q
@[simp] noncomputable def yI:FS:=λρ=>some (.ct ρ)
@[simp] noncomputable def AL:FS:=λ_=>none
section
variable {X:Cx}{pos:Pos}
def Cj:JS X (.Continue pos) yI:=PS.to yi λE σ H q=>by
 obtain⟨B0,H0,ρ,r,s,e,p⟩:=q;cases e
 exact p σ H s
def yJ {st:Stmt}:JS X st AL:=λah s σ H E I q=>by
 obtain⟨B0,H0,ρ,r,_,e,_⟩:=q;cases e
end
inductive CRows (K:Frag)(P:Params):List DictEntry->List (Str×D)->Prop where
 |nil:CRows K P [] []
 |tup {x:Str}{t:Tok}{h:Int}{a:Addr}{its:Array Value}{n:Nat}{lI:Array (Option Value)}{ds:List D}{r:List DictEntry}{aK:List (Str×D)}(hh:h=PyData.keyHash P x)
   (l:K.lookup a=some ⟨.type "tuple",none,.seq its n,lI⟩) (f:(decide (its.size<=1000) && jI its.toList ds)=true) (tl:CRows K P r aK):CRows K P (⟨h,.str x t,.ref a⟩::r) ((x,.tup ds)::aK)
 |flat {x:Str}{t:Tok}{h:Int}{u:Value}{d:D}{r:List DictEntry}{aK:List (Str×D)}(hh:h=PyData.keyHash P x) (f:xf u d=true) (tl:CRows K P r aK):CRows K P (⟨h,.str x t,u⟩::r) ((x,d)::aK)
theorem CRows.lit {K:Frag}{P:Params}:∀ {es:List DictEntry}{aK:List (Str×D)},CRows K P es aK->PySem.W.KeysLit P es
 |_,_,.nil=>trivial
 |_,_,.tup hh _ _ tl=>⟨⟨_,_,rfl,hh⟩,tl.lit⟩
 |_,_,.flat hh _ tl=>⟨⟨_,_,rfl,hh⟩,tl.lit⟩
theorem CRows.find {K:Frag}{P:Params}(y:Str):∀ {es:List DictEntry}{aK:List (Str×D)},CRows K P es aK->match aK.lookup y with
  |none=>es.find? (λe=>Value.isStrOf y e.key)=none
  |some d=>∃e v,es.find? (λe=>Value.isStrOf y e.key)=some e/\bf v e.val/\∀B,Is K B v d
 |_,_,.nil=>rfl
 |_,_,.tup (x:=x) (t:=t) (a:=a) (ds:=ds) hh l f tl=>by
  by_cases e:y=x
  ·subst e;rw[lookup_cons_self];rw[vC]at f;obtain⟨vs,r,i⟩:=jJ (K:=K) f.2;exact⟨_,.ref a,List.find?_cons_of_pos (by simp[Value.isStrOf]),rfl,λB=>.tup (.inr ⟨_,_,_,l,rfl,rfl,le_of_lt (lt_of_le_of_lt (Qs f.1) (by decide)),r⟩) (i B)⟩
  ·have G:=tl.find y;rw[lookup_cons,beq_eq_false_iff_ne.mpr e];have M:Value.isStrOf y (Value.str x t)=false:=by
    rw[eq_false_iff];intro z;obtain⟨t',q⟩:=Value.isStrOf_shape z;injection q with O;exact e O.symm
   simp only[find?_cons,M];exact G
 |_,_,.flat (x:=x) (t:=t) (u:=u) (d:=d) hh f tl=>by
  by_cases e:y=x
  ·subst e;rw[lookup_cons_self];obtain⟨v,U,_⟩:=ly (K:=K) (B:=λ_=>none) f;refine⟨_,v,List.find?_cons_of_pos (by simp[Value.isStrOf]),U,λB=>?_⟩;obtain⟨c,T,g⟩:=ly (K:=K) (B:=B) f;have:c=v:=by have b:=U.abs;rw[T.abs]at b;exact vK b
   subst this;exact g
  ·have G:=tl.find y;rw[lookup_cons,beq_eq_false_iff_ne.mpr e];have M:Value.isStrOf y (Value.str x t)=false:=by
    rw[eq_false_iff];intro z;obtain⟨t',q⟩:=Value.isStrOf_shape z;injection q with O;exact e O.symm
   simp only[find?_cons,M];exact G
def mS (K:Frag)(P:Params)(a:Addr)(aK:List (Str×D)):Prop:=∃es n,K.lookup a=some ⟨.type "dict",none,.dict es n,#[]⟩/\CRows K P es.toList aK/\(a == sysModules)=false
def const_dict {K:Frag}{P:Params}{y:Str}{a:Addr}{es:Array DictEntry}{n:Nat}{aK:List (Str×D)}(e:nsIn K mainGlobals y=some (some (.ref a)))(l:K.lookup a=some ⟨.type "dict",none,.dict es n,#[]⟩)(r:CRows K P es.toList aK)(s:(a == sysModules)=false):
  ∃a,nsIn K mainGlobals y=some (some (.ref a))/\mS K P a aK:=⟨a,e,es,n,l,r,s⟩
section
variable {X:Cx}{a b e:Expr}{pos:Pos}{x:Str}{p:Pos}
def mS.map {ah:AO}{σ:St}{H:Hp}{s:Shared}{d:Addr}{aK:List (Str×D)}(I:Inv X ah σ H s)(h:mS X.K X.w.params d aK):∃f:SV,s.heap.MapOf (strKind X.prog X.w) d f/\(d == sysModules)=false /\
  ∀y,match aK.lookup y with|none=>f y=none|some dd=>∃u v,f y=some u/\bf v u/\∀B,Is X.K B v dd:=by
 obtain⟨es,n,l,r,M⟩:=h;refine⟨_,PySem.W.mapOf_K I.kIn l r.lit,M,λy=>?_⟩;have:=r.find y;have G:findBy Value.isStrOf es y=(es.toList.find? λe=>Value.isStrOf y e.key).map (·.val):=by
  unfold findBy;obtain⟨es⟩:=es;rw[List.find?_toArray]
 cases hl:aK.lookup y with
 |none=>rw[hl]at this;dsimp only at this |-;rw[G,this];rfl
 |some dd=>
  rw[hl]at this;obtain⟨en,v,O,e2,T⟩:=this;exact⟨en.val,v,by rw[G,O];rfl,e2,T⟩
@[simp] noncomputable def mi (aK:List (Str×D)):D->OB
 |.str y=>(aK.lookup y).map λd=>(d,false)
 |_=>none
@[simp] noncomputable def qQ (aK:List (Str×D)):D->OB
 |.str y=>some (.bl (!(aK.lookup y).isSome),false)
 |_=>none
def xg (h:∃d,X.mg x=some (.ref d)/\mS X.K X.w.params d aK)(hb:JE X b f)(i:Gl X x:=by rfl)(hd:(x == ("__debug__" : Str))=false:=by decide)(hs:mI b:=by intro _ _;rfl):JE X (.Subscript (.Name x p) b pos) (f1 (mi aK) f):=by
 obtain⟨d,hm,cd⟩:=h;have j:Fj X (λx y H Q=>∃z dd,x=.ref d/\y=.str z/\aK.lookup z=some dd/\∀v,(∀B,Is X.K B v dd)->Q v H):=by
  intro M O ah s σ H x y v u Q I k l q hs;obtain⟨z,dd,rfl,rfl,m,q⟩:=q;cases k
  obtain⟨t,rfl⟩:=l;obtain⟨f,c,A,hf⟩:=cd.map I;have:=hf z;rw[m]at this;obtain⟨u,v,T,e2,n⟩:=this;exact tail_any c.typeIs slot_dict_getitem.lookup (wpAny_getItem_of (strKind_is X.prog X.w z t) c T ⟨v,H,I.tok _,e2,q v n⟩) hs
 refine PE.to (Fk j (qd (v:=.ref d) i hm rfl hd) hb hs) λσ H Q q=>?_;obtain⟨B,ρ,d',bb,o,r,G,q⟩:=q;obtain⟨U,ex,G⟩:=oX G;refine⟨B,ρ,U.1,U.2,o,r,ex,λv C N1 g i1 _=>?_⟩;obtain⟨xd,D⟩:=U;cases i1<;>try (simp[mi]at G;done)
 rename_i z _;simp only[mi]at G;obtain⟨dd,T,e2⟩:=oY G;cases e2
 exact⟨z,_,rfl,rfl,T,λv hv=>(q.into g).one g.nh (hv _)⟩
@[simp] noncomputable def QY:LD->OB
 |[.lst ds]=>some (.lst ds,true)
 |[.tup ds]=>some (.lst ds,true)
 |_=>none
@[simp] noncomputable def i7:LD->OB
 |[.lst ds]=>some (.tup ds,false)
 |[.tup ds]=>some (.tup ds,false)
 |_=>none
def Jm:cr X (.type "tuple") (BQ X.K i7):=by
 refine cr.to tL λxs H Q q=>?_;obtain⟨B,ds,d,bb,M,i,G,q⟩:=q;cases i with
 |nil=>simp[i7]at G
 |cons i1 i2=>
  cases i2 with
  |cons _ _=>cases i1<;>simp[i7]at G
  |nil=>
   cases i1<;>try (simp[i7]at G;done)
   ·rename_i T vs es h hl;simp only[i7]at G;cases G
    exact⟨_,_,rfl,.inr ⟨b7 M h,q.one M (.tup h hl)⟩⟩
   ·rename_i T vs es h hl;simp only[i7]at G;cases G
    refine⟨_,_,rfl,.inl ⟨M.seq h,λl hp=>?_⟩⟩;have O:=Ext.laid (o:=.tup vs) M hp;exact q _ _ _ O (.tup (iP.of aB) (hl.mono O.bn)) (by simp)
end
section
variable {X:Cx}{a b e:Expr}{pos:Pos}{x:Str}{p:Pos}
@[simp] def VC (i:Nat)(G M:FE):FS:=λρ=>match ρ[i]? with
 |some (some (.lst ds,true))=>(M ρ).bind λv=>(G ρ).bind λk=>match k.1 with
  |.int j=>(Fi ds.length j).bind λn=>if b8 v.1=true then some (.nx (ρ.set i (some (.lst (ds.set n v.1),true))))else none
  |_=>none
 |_=>none
@[simp] def FX (i:Nat)(f:FE):FS:=λρ=>match ρ[i]? with
 |some (some (.lst ds,true))=>(f ρ).bind λx=>match x.1 with
  |.lst es=>if x.2=true/\bB es=true/\ds.length+es.length<=sizeLine then some (.nx (ρ.set i (some (.lst (ds++es),true))))else none
  |_=>none
 |_=>none
def MO (he:JE X e f)(g:PE X (.Name y py) (pV i):=by exact pv)
  (M:attributeBase (.Name y py) "extend" X.env (eval (.Name y py) X.env)=eval (.Name y py) X.env:=by rfl)
  (T:((backTo cB (starEach [e] X.env)).all (λx=>!x.1) && (backToKw cB (keywordEach [] X.env)).all (λx=>x.1.isSome)
   && decide ([e].length+([]:List Keyword).length+(if([]:List Keyword).isEmpty then 0 else 1)<30))=true:=by rfl)
  (O:(dL.endLine == cB.line)=true:=by rfl) (hs:starEach [e] X.env=[(false,eval e X.env)]:=by rfl) (U:swapsWith (.Call (.Attribute (.Name y py) "extend" dL) [e] [] cB) none pos.line X.env=pure false:=by rfl):
  JS X (.Expr (.Call (.Attribute (.Name y py) "extend" dL) [e] [] cB) pos) (FX i f):=by
 refine PS.to (BF (BK plainAttrs_list PySem.F.slot_list_extend PySem.F.type_list_extend DB g (eI he gO hs) M T O hs rfl) U) λE σ H q=>?_;obtain⟨B0,H0,ρ,r,⟨N,s⟩,G,p⟩:=q;unfold FX at G;split at G
 ·rename_i ds ei;obtain⟨v,h,G⟩:=oX G;obtain⟨j,t⟩:=v;cases j with
  |lst es=>
   dsimp only at G;split at G
   ·rename_i hc;cases G
    obtain⟨l,vs,k,z,h1,h2,h3,h4⟩:=s.owL i _ ei;cases z
    refine⟨_,h1,.inl ⟨rfl,vs,gN.of (s.ext.nh _ _ h2)⟩,N,ρ,_,_,s.ext.nh,s.rep,h,λu w N1 c i1 f1=>?_⟩;obtain⟨l2,m,A,rfl,z,g1,n,d⟩:=f1 hc.1;cases z
    have s1:=s.grow c;obtain⟨B,o,k,z,k1,k2,_,k4⟩:=s1.owL i _ ei;cases z
    rw[h1]at k1;cases k1;exact⟨l,l2,o,m,rfl,rfl,s1.ext.nh _ _ k2,c.nh _ _ n,by rw[k4.length,d.length];exact hc.2.2,p σ _ ⟨_,s1.write ei h1 (k4.append (s1.flats d hc.2.1))⟩⟩
   ·cases G
  |_=>cases G
 ·cases G
@[simp] noncomputable def xh:LD->OB
 |[.int i]=>some (.int i,false)
 |[.bl b]=>some (.int (if b then 1 else 0),false)
 |_=>none
def Pw:cr X (.type "int") (BQ X.K xh):=by
 refine cr.to D7 λxs H Q q=>?_;obtain⟨B,ds,d,bb,M,i,G,q⟩:=q;cases i with
 |nil=>simp[xh]at G
 |cons i1 i2=>
  cases i2 with
  |cons _ _=>cases i1<;>simp[xh]at G
  |nil=>
   cases i1<;>try (simp[xh]at G;done)
   ·simp only[xh]at G;cases G
    exact .inr ⟨_,rfl,q.one M (.int _)⟩
   ·simp only[xh]at G;cases G
    exact .inl ⟨_,rfl,q.one M (.int _)⟩
end
open AutoSeq1 (wpAny_loadPart')
set_option maxRecDepth 100000
noncomputable def Uf (k:Bool):String:=if k=true then "list" else "tuple"
def yK (k:Bool)(l:Addr)(items:AV)(n:Nat)(G:Option Addr)(sl:Array (Option Value)):
  Meets (Builtin.«enumerate.__new__» ⟨[.type "enumerate",.ref l],[]⟩) (λ_ R s=>s.heap.get? l=some { cls:=.type (Uf k),dict:=G,data:=.seq items n,slots:=sl } /\
   R (.ok (.ret (.ref (s.heap.push (Ie k l)).objs.size))) { s with heap:=(s.heap.push (Ie k l)).push { cls:=.type "enumerate",data:=.fields #[.none,.bool false,.ref s.z,rawInt 0,.none,.none] } }) :=
 .of_wp λprog w A R s hs=>by
  obtain⟨hp,g,d,tk,os⟩:=s;obtain⟨hl,hs⟩:=hs;have O:=sub_enumerate;have M:kF k (Shared.heap ⟨hp,g,d,tk,os⟩) l items:=by cases k<;>exact⟨_,hl,rfl,n,rfl⟩
  wp_walk using wpAny_loadPart' hl;refine wpAny_stack_any λst=>wY ?_;split
  ·rename_i c _ _ _ _ _;cases (c == Value.type "enumerate")
   ·wp_walk using wpAny_loadPart' hl,mR M;exact⟨_,rfl,hs⟩
   ·wp_walk using wpAny_loadPart' hl,mR M;exact⟨_,rfl,hs⟩
  ·wp_walk using wpAny_loadPart' hl,mR M;exact⟨_,rfl,hs⟩
section
variable {prog:Program}{w:World}{A:Around}{E:QV}{s:Shared}
def FY (O:kF k s.heap l items)
  (q:∀h',IsEnum h' (s.z+1) s.z 0 .none->l5 k h' s.z l 0->(∀b o,s.heap.get? b=some o->h'.get? b=some o)->Q (.ref (s.z+1)) { s with heap:=h' }):
  wpAny (model prog w) A (call (.type "enumerate") [.ref l]) Q E s:=by
 have hh:∃(G:Option Addr)(sl:Array (Option Value))(n:Nat),s.heap.get? l=some { cls:=.type (Uf k),dict:=G,data:=.seq items n,slots:=sl }:=by
  cases k<;>(obtain⟨⟨c,G,dt,sl⟩,hl,hc,n,hd⟩:=O;dsimp only at hc hd;subst hc;subst hd;exact⟨G,sl,n,hl⟩)
 obtain⟨G,sl,n,hl⟩:=hh;refine callType_new PySem.F.called_enumerate (by decide) (PySem.F.typeCall_enumerate_1 _) (PySem.F.newCall_enumerate_1 _) (λobj=>PySem.F.args_object_init_2 obj _) PySem.F.entry_enumerate_new (yK k l items n G sl) ⟨hl,?_⟩;have n1:(s.heap.push (Ie k l)).objs.size=s.z+1:=Heap.size_push ..;have M:((s.heap.push (Ie k l)).push { cls:=.type "enumerate",data:=.fields #[.none,.bool false,.ref s.z,rawInt 0,.none,.none] }).get? (s.heap.push (Ie k l)).objs.size=some _:=vY _ rfl;have g1:((s.heap.push (Ie k l)).push { cls:=.type "enumerate",data:=.fields #[.none,.bool false,.ref s.z,rawInt 0,.none,.none] }).get? s.z=some _:=vZ _ (vY _ (by cases k<;>rfl))
 rw[n1]at M;show _/\_;rw[n1];refine⟨⟨_,M,rfl⟩,q _ M ?_ λb o e=>vZ _ (vZ _ e)⟩;cases k<;>exact⟨_,g1,rfl,rfl⟩
def MP (U:A.handled=none)(it l:Addr)(G:l≠it)(items:AV):Draws prog w A it [it,l] items.size (λi v=>items[i]? = some v) (λi h=>l5 k h it l i/\kF k h l items) where
 live:=λi h st=>let ⟨o,e,_⟩:=st.1.ob;⟨o,e⟩
 frame:=λi h h' st O=>⟨st.1.upon λo e=>O it (by simp) o e,st.2.upon λo e=>O l (by simp) o e⟩
 item:=λi s Q E hi st q=>gm st.1 st.2 (v:=items[i]) (by simp[hi]) λh' M T=>q _ h' s.toks (by simp[hi]) ⟨M,st.2.upon λo e=>T.extBut _ _ G e⟩ T
 done:=λs Q E st q=>jv U st.1 st.2 (by simp) q
def MQ (M:A.handled=none)(it l:Addr)(items:AV)(n:Nat)(hn:items[n]? = none):Draws prog w A it [it,l] n (λ_ _=>True) (λi h=>(l5 k h it l i/\kF k h l items)/\i=n) where
 live:=λi h st=>let ⟨o,e,_⟩:=st.1.1.ob;⟨o,e⟩
 frame:=λi h h' st G=>⟨⟨st.1.1.upon λo e=>G it (by simp) o e,st.1.2.upon λo e=>G l (by simp) o e⟩,st.2⟩
 item:=λi s Q E hi st q=>absurd st.2 (vS hi)
 done:=λs Q E st q=>jv M st.1.1 st.1.2 hn q
end
noncomputable def Sb (K:Frag)(k:Bool)(a:Addr):It :=
  ⟨λi H=>∃xs x,mh k K H a xs/\xs[i]? = some x,
   λi H v H'=>∃T x,v=.ref T/\H T=none/\H'=upd H T (.tup [.int i,x])/\∀xs,mh k K H a xs->xs[i]? = some x,
   λi H=>∃xs,mh k K H a xs/\xs.length<=i⟩
def DQ {P:Program}{w:World}{K:Frag}{es:QD}{p:Nat}{pt:Pos}{k:Bool}{a e it:Addr}(O:e≠it)(r:a≠e)(t:a≠it):
  Turn P w K (.Tuple es p pt) (Sb K k a) [e,it] e (λi h=>(∃G,IsEnum h e it i G)/\l5 k h it a i) where
 mem:=by simp
 obj:=λi h st b hb=>by
  obtain⟨⟨G,he⟩,M⟩:=st;simp at hb;rcases hb with rfl|rfl
  ·exact⟨_,he,λv z=>by cases z⟩
  ·exact M.ob
 keep:=λi h h' st c=>by
  obtain⟨⟨G,he⟩,M⟩:=st;exact⟨⟨G,c e (by simp) _ he⟩,M.upon λo q=>c it (by simp) o q⟩
 item:=by
  intro X f hw g hc i ah s σ H E I hf st j;subst f hw g;obtain⟨⟨G,he⟩,M⟩:=st;obtain⟨xs,x,d,hx⟩:=j;obtain⟨its,l,m,y⟩:=d.vals I;obtain⟨u,hu,ru⟩:=l.get hx;have fresh:H s.z=none:=I.hok.fresh (vT _);have B:i<its.toArray.size:=by rw[vH];exact(vV hu).1
  have U:e≠s.z:=vS (vX he);have C:it≠s.z:=by obtain⟨o,q,_⟩:=M.ob;exact vS (vX q)
  refine wpAny_pyNext_enum_itemD (MP (A:=X.A.in1) (I.ok.hd hc) it a t its.toArray) he ⟨M,m⟩ B O (by simp[O,r.symm]) λv h' tk hv D F J hsz hk=>?_;have L:v=u:=by
   have n:its[i]? = some v:=by simpa using hv
   rw[hu]at n;exact(vK n).symm
  subst L;refine⟨_,rfl,wpAny_letOwnedTupleGo_enum (s:={ s with heap:=h',toks:=tk+1 }) D λh2 N s2=>?_⟩;have T:Heap.SameBut e h' h2:=s2;have c:∀b o,b∉[e,it]->s.heap.get? b=some o->h2.get? b=some o:=λb o hb q=>T.extBut _ _ (λz=>hb (by simp[z])) (hk b o (λz=>hb (by simp[z])) (λz=>hb (by simp[z])) q);have new:bI X.prog X.w (upd H s.z (.tup [.int i,x])) h2 s.z (.tup [.int i,x]):=⟨by show 2<=sizeLine;decide,[.int i tk,v],.cons ⟨tk,rfl⟩ (.cons ru .nil),⟨_,T.extBut _ _ U.symm J,rfl,_,rfl⟩⟩;refine⟨.ref s.z,upd H s.z (.tup [.int i,x]),Ci (s:=s) (t':=tk+1) I hf c (vT _) new,rfl,⟨_,x,rfl,fresh,rfl,λzs hq=>by rw[mh.inj I hq d];exact hx⟩,?_,λb hb=>?_⟩
  ·exact⟨⟨_,by have:=N;rw[show((i:Int)+1)=((i+1:Nat):Int) by omega]at this;exact this⟩,F.1.upon λo q=>T.extBut _ _ O.symm q⟩
  ·have Q:b≠s.z:=by
    simp at hb;rcases hb with rfl|rfl
    ·exact U
    ·exact C
   rw[aG Q];exact(hf b hb).1
 done:=by
  intro X f hw g hc i ah s σ H E I hf st j;subst f hw g;obtain⟨⟨G,he⟩,M⟩:=st;obtain⟨xs,d,hl⟩:=j;obtain⟨its,l,m,y⟩:=d.vals I;have n1:=l.length;refine wpAny_pyNext_enum_endD (MQ (A:=X.A.in1) (I.ok.hd hc) it a its.toArray i (by simp;omega)) he ⟨⟨M,m⟩,rfl⟩ λh' hk=>⟨rfl,?_⟩;exact jK (t':=s.toks) I hf λb o hb q=>hk b o (λz=>hb (by simp[z])) q
 self:=λ_ _ _ _ _ st h=>let ⟨⟨_,he⟩,_⟩:=st;wpAny_pyIter_enum he h
section
variable {X:Cx}{a b e:Expr}{pos:Pos}{p:Pos}
def yL:bootBuiltins "enumerate" = some (.type "enumerate"):=by decide +kernel
noncomputable def ux (ds:LD):LD:=ds.mapIdx λi d=>.tup [.int i,d]
@[simp] def FZ (fa:FE):FA:=λρ=>(fa ρ).bind λx=>(gd x.1).map ux
def Jn {K:Frag}{N:Hp}{k:Bool}{l:Addr}{vs:LV}{ds:LD}(h1:mh k K N l vs)(i1:IsL K N vs ds):mO K (Sb K k l) N (ux ds):=by
 intro i H' G;have n1:=i1.length;refine⟨λd ed=>?_,λhl=>⟨vs,h1.same G,?_⟩⟩
 ·unfold ux at ed;rw[List.getElem?_mapIdx]at ed;obtain⟨x,c,rfl⟩:=oY ed;obtain⟨v,M,iv⟩:=i1.get c;refine⟨⟨vs,v,h1.same G,M⟩,λr H2 hy=>?_⟩;obtain⟨T,g,rfl,f,rfl,f1⟩:=hy;have O:=f1 vs (h1.same G);rw[M]at O;cases O;have U:=Ext.laid (o:=.tup [.int i,v]) G f;exact⟨_,U,.tup (iP.of aB) (.cons (.int _) (.cons (iv.mono U.bn) .nil))⟩
 ·unfold ux at hl;rw[List.length_mapIdx]at hl;omega
def Jo {es:QD}{g:Nat}{pt:Pos}{fa:FE}(hm:X.mg "enumerate" = none)(ha:JE X a fa)(h:Gl X "enumerate":=by rfl)(hs:starEach [a] X.env=[(false,eval a X.env)]:=by rfl):
  JI X (.Tuple es g pt) (.Call (.Name "enumerate" p) [a] [] pos) (FZ fa):=by
 intro ah s σ H R I q;refine Call_ (io I h hm yL (PyProof.Rows.callWith_type1 (cA (ai ha ao hs pos ah s σ H (λvs G=>∃(k:Bool)(l:Addr)(us:LV),vs=[.ref l]/\mh k X.K G l us/\R (Sb X.K k l) G) I ?_) λus s1 ⟨vs,G,T,i,j⟩=>?_) hs rfl))
 ·obtain⟨B,ρ,ds,m,r,M,q⟩:=q;obtain⟨n,ex,M⟩:=oX M;obtain⟨xs,U,M⟩:=oY M;subst M;refine⟨B,ρ,[n.1],m,r,by simp[ag,aj,ex],λvs G N1 c i1=>?_⟩;cases i1 with
  |cons o t=>
   cases t
   obtain⟨k1,l1,us,rfl,s1,m1⟩:=yG o U;exact⟨k1,l1,us,rfl,s1.same c.nh,q _ G N1 c (Jn s1 m1)⟩
 ·obtain⟨k,l,x,rfl,h1,q⟩:=j;obtain⟨y,rfl,u⟩:=i.one;cases u
  obtain⟨its,z,d,A⟩:=h1.vals T;have EQ:=d.lt;refine FY d λh' f v w=>?_;refine wpAny_pyIter_enum f ⟨s1.z+1,[s1.z+1,s1.z],_,_,G,rfl,T.kept (t':=s1.toks) w,
   DQ (Nat.succ_ne_self _) (vS (lt_succ_of_lt EQ)) (vS EQ),⟨⟨_,f⟩,v⟩,λb hb=>?_,q⟩
  have O:s1.z<=b:=by
   simp at hb;rcases hb with rfl|rfl
   ·exact le_succ _
   ·exact vT _
  exact T.fpOk O (T.hok.fresh O)
end
end DL
namespace DL
open PySem PySem.Spec PyProof.Rows
def DR (t:SetTable)(es:Array (Int×Value))(n:Nat):(relayAll t es n).2.1.led=t.led:=by
 unfold relayAll;split
 ·rename_i t' G h;unfold SetTable.relaid SetTable.laid at h;obtain⟨ow,_,h⟩:=oX h;cases h
  dsimp only;split<;>rfl
 ·rfl
def yM (t:SetTable)(es:Array (Int×Value))(n:Nat)(hp:t.plain=false):(relayAll t es n).2.1.plain=false:=by
 unfold relayAll;split
 ·rename_i t' G h;unfold SetTable.relaid SetTable.laid at h;obtain⟨ow,_,h⟩:=oX h;cases h
  dsimp only;split
  ·exact hp
  ·rfl
 ·rfl
def Jp (t:SetTable)(es:Array (Int×Value))(h:Int)(x:Value):(layNew t es h x).2.1.led=t.led:=by
 unfold layNew;split
 ·dsimp only[SetTable.put,SetTable.orStandIn];repeat' (first|rfl|split)
 ·rfl
structure TabT (w:World)(es:Array (Int×Value))(t:SetTable):Prop where
 fits:t.fits es.size=true
 led:t.led = !w.params.followText "set-order"
 plain:es.size≠0->t.plain=false
def iR (prog:Program)(w:World)(h:Heap)(a:Addr)(G:LS):Prop :=
 ∃o es M t,h.get? a=some o/\o.ExactSet/\o.data=.set es M t/\ElemsOf (PySem.strKind prog w) es.toList/\(es.toList.map (λe=>strOf e.2)).Perm G/\G.Nodup/\G.length<scanBound/\TabT w es t
noncomputable def ji (G:LS)(x:Str):LS:=if x∈G then G else G++[x]
def Ga (G:LS)(x:Str):(ji G x).length<=G.length+1:=by unfold ji;split<;>simp
def yN (h:Value.isStrOf k v=true):strOf v=k:=by obtain⟨t,rfl⟩:=Value.isStrOf_shape h;rfl
section
variable {prog:Program}{w:World}{A:Around}{E:QV}{s:Shared}
def uy {es:Array (Int×Value)}{O:LS}(M:ElemsOf (PySem.strKind prog w) es.toList)(hp:(es.toList.map (λe=>strOf e.2)).Perm O)(k:Str):k∈O ↔ ∃e∈es.toList,(PySem.strKind prog w).is k e.2=true:=by
 rw[<-hp.mem_iff,List.mem_map];constructor
 ·rintro⟨e,he,rfl⟩;obtain⟨⟨k',hk,_⟩,_⟩:=M e he;have G:Value.isStrOf k' e.2=true:=hk;refine⟨e,he,?_⟩;show Value.isStrOf (strOf e.2) e.2=true;rw[yN G];exact G
 ·rintro⟨e,he,hk⟩;exact⟨e,he,yN hk⟩
def uz {h:Heap}{a:Addr}{o:Obj}{es:Array (Int×Value)}{M:Nat}{t:SetTable}(O:h.get? a=some o)(hd:o.data=.set es M t)(G:Array (Int×Value))(t':SetTable):
  (h.update a (Obj.putSet G t')).get? a=some { o with data:=.set G (M+1) t' }:=by
 have:=Heap.get?_update_self (Obj.putSet G t') O (by rw[putSet_of G t' hd];rfl);rw[putSet_of G t' hd]at this;exact this
def yO {g:Bool->Sem Unit}(y:∀(b:Bool)(U:Shared)(l:Unit->Shared->Prop),l () U->wpAny (model prog w) A (g b) l E U)
  {a:Addr}{o:Obj}{es:Array (Int×Value)}{z:Nat}{t:SetTable}(m:s.heap.get? a=some o) (n:o.ExactSet) (hd:o.data=.set es z t)
  {G:Array (Int×Value)}{M:SetTable}{c:LS}(p:ElemsOf (PySem.strKind prog w) G.toList) (d:(G.toList.map (λe=>strOf e.2)).Perm c) (nd:c.Nodup)
  (hb1:c.length<scanBound) (B:M.fits G.size=true) (q:M.led = !w.params.followText "set-order") (r:M.plain=false) {O:Bool}{R:Option Bool->Shared->Prop}
  (h:∀h',Heap.SameBut a s.heap h'->iR prog w h' a c->R (some true) { s with heap:=h' }):
  wpAny (model prog w) A (do
    storeSet a G M
    if(!O && M.tooFull)=true then do
      g (relayAll M G (SetTable.grown G.size)).2.2
      storeSet a (relayAll M G (SetTable.grown G.size)).1 (relayAll M G (SetTable.grown G.size)).2.1
      pure (some true)
     else pure (some true)) R E s:=by
 have u:G.size=c.length:=by rw[<-d.length_eq,vI,vG]
 refine wX (wpAny_storeSet_of m hd ?_ (fits_of_scanBound (by rw[u];exact hb1)));have f:=uz m hd G M;have v:=vW s.heap a (Obj.putSet G M);split
 ·have hp:=relayAll_perm M G (SetTable.grown G.size);have i:=relayAll_fits M G (SetTable.grown G.size);have j:=DR M G (SetTable.grown G.size);have k:=yM M G (SetTable.grown G.size) r;generalize C:relayAll M G (SetTable.grown G.size)=Rl at hp i j k |-;obtain⟨T,x,H⟩:=Rl;dsimp only at hp i j k |-;have D:ElemsOf (PySem.strKind prog w) T.toList:=p.perm hp;have hsz:T.size=G.size:=by rw[<-vG,hp.length_eq,vG]
  refine wX (y _ _ _ ?_);refine wX (wpAny_storeSet_of f rfl ?_ (fits_of_scanBound (by rw[hsz,u];exact hb1)));have F:=uz f rfl T x;exact wY (h _ (v.trans (vW _ a _)) ⟨_,T,_,x,F,n,rfl,D,(hp.map _).trans d,nd,hb1,i,j.trans q,λ_=>k⟩)
 ·exact wY (h _ v ⟨_,G,_,M,f,n,rfl,p,d,nd,hb1,B,q,λ_=>r⟩)
def AM {a:Addr}{U:LS}{k:Str}{tk:Tok}{Q:Bool->Shared->Prop}(m:iR prog w s.heap a U)(F:U.length+1<scanBound)
  (h:∀b h',Heap.SameBut a s.heap h'->iR prog w h' a (ji U k)->Q b { s with heap:=h' }):
  wpAny (model prog w) A (setAddHashed a (.str k tk) ((PySem.strKind prog w).hash k)) Q E s:=by
 have hS0:=m;obtain⟨o,es,N,t,i,n,hd,d,G,nd,hb,hf,p,P⟩:=m;have q:(PySem.strKind prog w).is k (.str k tk)=true:=strKind_is prog w k tk;have sz:es.size=U.length:=by rw[<-G.length_eq,vI,vG]
 unfold setAddHashed setAddHashedIn;refine wpAny_holding (wX (wpAny_setState_of i hd hf ?_));dsimp only;rw[byScan_of (x:=.str k tk) rfl (by rw[sz];exact hb) d];simp only[↓reduceIte];unfold setAddByScan;refine wX ?_;refine wX (wpAny_rule ?_);refine wX (wpAny_setScan_of q i hd hf d ?_);cases r:List.findIdx? (λe=>(PySem.strKind prog w).is k e.2) es.toList with
 |some j=>
  dsimp only;obtain⟨hj,H,_⟩:=List.findIdx?_eq_some_iff_getElem.mp r;have hm:k∈U:=(uy d G k).mpr ⟨es.toList[j],getElem_mem hj,H⟩;refine wY (wY ?_);have e:ji U k=U:=by unfold ji;rw[if_pos hm]
  exact h false s.heap (Heap.SameBut.refl a s.heap) (by rw[e];exact hS0)
 |none=>
  dsimp only;have hm:k∉U:=λz=>by
   obtain⟨e,he,hp⟩:=(uy d G k).mp z;have:=List.findIdx?_eq_none_iff.mp r e he;rw[hp]at this;exact Bool.noConfusion this
  have I:ji U k=U++[k]:=by unfold ji;rw[if_neg hm]
  have J:∀(b:Bool){T:Shared}{f:Unit->Shared->Prop},f () T->wpAny (model prog w) A (match b with|true=>rule "set.scan.the-table-gave-way" | false=>pure ()) f E T :=
   λb T f hq=>by cases b<;>first|exact wY hq|exact wpAny_rule hq
  have M:=layNew_perm t es ((PySem.strKind prog w).hash k) (.str k tk);have O:=layNew_fits t es ((PySem.strKind prog w).hash k) (.str k tk);have l:=Jp t es ((PySem.strKind prog w).hash k) (.str k tk);generalize R:layNew t es ((PySem.strKind prog w).hash k) (.str k tk)=L at M O l |-;obtain⟨u,S,V,W⟩:=L;dsimp only at M O l |-;rw[toList_push]at M;have v:ElemsOf (PySem.strKind prog w) u.toList:=(d.push q rfl).perm M;have B:(u.toList.map (λe=>strOf e.2)).Perm (U++[k]):=(M.map _).trans (by rw[uW];exact G.append_right _);have C:(U++[k]).Nodup:=by
   rw[nodup_append];refine⟨nd,by simp,λx hx y hy=>?_⟩;rw[mem_singleton]at hy;subst hy;exact λz=>hm (z ▸ hx)
  have hb1:(U++[k]).length<scanBound:=by rw[uZ];exact F
  refine wX (J _ ?_);have D:∀h',Heap.SameBut a s.heap h'->iR prog w h' a (U++[k])->Q true { s with heap:=h' }:=λh' c g=>h true h' c (by rw[I];exact g);split
  ·refine wX ?_;rw[hashByValue_scannable 8 (x:=.str k tk) rfl];refine wY ?_;refine yO ?_ i n hd v B C hb1 ?_ ?_ ?_ ?_
   ·intro b T f hq;cases b<;>first|exact wY hq|exact wpAny_rule hq
   ·exact SetTable.fits_plain_off O
   ·exact l.trans p
   ·rfl
   ·intro h' c g;dsimp only;exact wY (D h' c g)
  ·rename_i K;refine wX (wY ?_);simp only[↓reduceIte];refine yO ?_ i n hd v B C hb1 O (l.trans p) (by simpa using K) ?_
   ·intro b T f hq;cases b<;>first|exact wY hq|exact wpAny_rule hq
   ·intro h' c g;dsimp only;exact wY (D h' c g)
end
noncomputable def gG (ss:LS):LS:=ss.foldl ji []
def AN (h:G.Nodup)(x:Str):(ji G x).Nodup:=by
 unfold ji;split
 ·exact h
 ·rename_i hm;rw[nodup_append];refine⟨h,by simp,λy hy z hz=>?_⟩;rw[mem_singleton]at hz;subst hz;exact λe=>hm (e ▸ hy)
def qR:y∈ji G x↔y∈G\/y=x:=by
 unfold ji;split
 ·rename_i hm;exact⟨.inl,λz=>z.elim id λe=>e ▸ hm⟩
 ·simp
def xi (ss:LS):∀G:LS,(ss.foldl ji G).length<=G.length+ss.length:=by
 induction ss with
 |nil=>intro G;simp
 |cons x r M=>intro G;rw[foldl_cons];have:=M (ji G x);have:=Ga G x;simp only[vE];omega
def qS (ss:LS):(gG ss).length<=ss.length:=by have:=xi ss [];simpa [gG]using this
def DS (ss:LS)(x:Str):gG (ss++[x])=ji (gG ss) x:=by unfold gG;rw[foldl_append];rfl
theorem StrsAre.at:∀ {vs:LU}{ss:LS},StrsAre vs ss->∀(i:Nat)(v:Value),vs[i]? = some v->∃x t,v=.str x t/\ss[i]? = some x
 |_,_,.nil,i,v,h=>by simp at h
 |_,_,.cons x t G,0,v,h=>by simp at h;exact⟨x,t,h.symm,rfl⟩
 |_,_,.cons x t G,i+1,v,h=>by
  simp only[getElem?_cons_succ]at h;exact StrsAre.at G i v h
def iR.at (x:iR prog w h a O)(k:∀o,h.get? a=some o->h'.get? a=some o):iR prog w h' a O:=by
 obtain⟨o,es,G,t,M,r⟩:=x;exact⟨o,es,G,t,k o M,r⟩
section
variable {prog:Program}{w:World}{A:Around}{R:Result->Shared->Prop}{I:Addr}{fp wr:List Addr}{G:Array GenState->Array GenState->Prop}{n:Nat}{P:Nat->Value->Prop}{St:Nat->Shared->Prop}
def xj (W:WalksS prog w A.in1 I fp wr G n P St)(S:Addr)(T:S∉fp)(ss:LS)(hn:ss.length=n)
  (U:∀i v,P i v->∃x t,v=.str x t/\ss[i]? = some x) (hb:n+1<scanBound):
  ∀(k i:Nat)(s:Shared),n - i=k->i<=n->St i s->iR prog w s.heap S (gG (ss.take i)) ->
   (∀s',Moved (S::wr) G s s'->iR prog w s'.heap S (gG ss)->R (.ok (.ret .none)) s') ->
   codeAny (model prog w) A (.builtin "set.update.loop" ⟨[.ref S,.ref I],[]⟩) R s:=by
 have j:S∉wr:=λh=>T (W.sub _ h);have M:∀b∈wr,b∈S::wr:=λb hb=>mZ _ hb;intro k;induction k with
 |zero=>
  intro i s hk hi O g hR;have m:i=n:=by omega
  subst m;refine codeAny_builtin PyProof.Rows.F.entry_set_update_loop ?_;rw[Around.under_plainId PyProof.Rows.F.plain_set_update_loop _];show wpAny _ A.in1 (pyNext (.ref I)>>=_) _ _ s;refine wX (W.done s _ _ O λs' hm=>?_);show wpAny _ A.in1 (ret Value.none) _ _ s';refine wY (hR s' (hm.mono M) ?_);rw[List.take_of_length_le (by omega)]at g;exact g.at λo e=>hm.heap S _ j e
 |succ k p=>
  intro i s hk hi O g hR;have l:i<n:=by omega
  refine codeAny_builtin PyProof.Rows.F.entry_set_update_loop ?_;rw[Around.under_plainId PyProof.Rows.F.plain_set_update_loop _];show wpAny _ A.in1 (pyNext (.ref I)>>=_) _ _ s;refine wX (W.item i s _ _ l O λv s' q a hm=>?_);obtain⟨x,t,rfl,hx⟩:=U i v q;have r:iR prog w s'.heap S (gG (ss.take i)):=g.at λo e=>hm.heap S _ j e;show wpAny _ A.in1 (holding [Value.str x t] (setAdd S (.str x t))>>=_) _ _ s';refine wX (wpAny_holding ?_);unfold setAdd;refine wpAny_holding ?_;refine wX ((PySem.strKind prog w).pyHash (k:=x) (strKind_is prog w x t) ?_);have hl:(gG (ss.take i)).length+1<scanBound:=by have:=qS (ss.take i);rw[length_take]at this;omega
  refine AM (s:={ s' with toks:=s'.toks+1 }) r hl λb h' c u=>?_;have y:iR prog w h' S (gG (ss.take (i+1))):=by
   rw[take_add_one,hx,Option.toList_some,DS];exact u
  refine wY ⟨plainId_quiet PyProof.Rows.F.plain_set_update_loop _,p (i+1) _ (by omega) l (W.frame _ s' _ _ a (le_succ _) λb hb o e=>?_) y λz d f=>?_⟩
  ·rw[c.2 b (λh:b=S=>T (by rw[<-h];exact hb))];exact e
  ·refine hR z (Moved.trans W.gtrans ((hm.mono M).then_heap (le_succ _) λb o hb e=>?_) d) f;rw[c.2 b (λh:b=S=>hb (by rw[h];exact mX))];exact e
end
section
variable {prog:Program}{w:World}{A:Around}{E:QV}{s:Shared}
noncomputable abbrev fy (w:World):Obj:={ cls:=.type "set",dict:=none,data:=.set #[] 0 (.fresh 0 0 (!w.params.followText "set-order")) }
def yP (a:Value) 
  (h:Q₁ (.ref s.z) { s with heap:=s.heap.push (fy w) }):
  codeAny (model prog w) A (.call (.builtin "set.__new__") ⟨[.type "set",a],[]⟩) (wants Q₁ E) s:=by
 refine codeAny_of_tree ?_;show wpAny _ A.in1 (do checkBuiltinCall "set.__new__" ⟨[.type "set",a],[]⟩;again (.builtin "set.__new__" ⟨[.type "set",a],[]⟩)) _ _ s;refine wX (wpAny_of_eq (PySem.F.newCall_set_1 a) (wY ⟨plainId_quiet plain_set_new _,codeAny_builtin PySem.F.entry_set_new ?_⟩));rw[Around.under_plainId plain_set_new _];unfold Builtin.«set.__new__» Builtin.Frozenset.newClass;have G:=sub_set_self;obtain⟨hp,g,d,tk,os⟩:=s;dsimp only;wp_walk;refine wpAny_askSetting (wY ?_);dsimp only;simp only[newObj];refine wX (wpAny_alloc (wY ?_));exact wY h
set_option maxHeartbeats 3200000 in
def qT 
  (hh:A.handled=none) (hl:s.heap.IsList l items) (hi:StrsAre items.toList ss) (hb:items.size+1<scanBound)
  (h:∀(h':Heap)(tk:Nat),iR prog w h' s.z (gG ss) ->
   (∀b o,b<s.z->s.heap.get? b=some o->h'.get? b=some o)->Q (.ref s.z) { s with heap:=h',toks:=tk }):
  wpAny (model prog w) A (call (.type "set") [.ref l]) Q E s:=by
 obtain⟨c,tl,Z⟩:=called_set.mro;have Va:=called_set.made;have Xf:=called_set.sub;refine wpAny_call (codeAny_of_tree ?_);show wpAny _ _ (callAny (.type "set") _) _ _ _;refine wY ⟨Code.quiet_builtin _ (by decide +kernel),codeAny_builtin PySem.F.entry_type_call ?_⟩;rw[Around.under_plain (weight_type_call_type "set" [.ref l] []) rfl];have h1:=called_set.notType;have h2:=called_set.canCreate;have Y1:=PySem.F.typeCall_set_1 (.ref l);have B:ss.length=items.size:=by have:=hi.strs;rw[<-this,vI,vG]
 repeat (any_goals (first|assumption|wp_step))
 refine codeAny_mono (yP (.ref l) (E:=E) (Q₁:=λobj O=>obj=.ref s.z/\O={ s with heap:=s.heap.push (fy w) }) ⟨rfl,rfl⟩) λr O f=>?_;cases r with
 |error e=>exact f
 |ok fl=>
  cases fl with
  |ret obj=>
   obtain⟨rfl,rfl⟩:=f;have k:(s.heap.push (fy w)).get? s.z=some (fy w):=vY _ rfl;have C:Shared.TypeIs { s with heap:=s.heap.push (fy w) } (.ref s.z) "set":=⟨_,k,rfl⟩;have Y2:=called_set.init.lookup;have Y3:=called_set.init.bind (.ref s.z);repeat (any_goals (first|assumption|wp_step))
   refine codeAny_mono (codeAny_call_builtin (R:=wants (λr T=>r=.none/\∃h' tk,T={ s with heap:=h',toks:=tk } /\
     iR prog w h' s.z (gG ss) /\
     (∀b o,b<s.z->s.heap.get? b=some o->h'.get? b=some o)) E) called_set.init.plain PySem.F.entry_set_init (check_set_init_1 C ?_)) λd T G=>?_
   ·obtain⟨D,m,n,p,q⟩:=hl;obtain⟨Xg,U,Vb,M⟩:=D;simp only at n q;subst n;subst q;have H:(s.heap.push (fy w)).get? l=some { cls:=.type "list",dict:=U,data:=.seq items p,slots:=M }:=vZ _ m;have Xh:=PySem.F.sub_list_set;have Xi:=PySem.F.sub_list_frozenset;have ES:(Value.type "list" == Value.type "dict")=false:=by decide
    have u:(s.heap.push (fy w)).IsList l items:=⟨_,H,rfl,p,rfl⟩;unfold Builtin.«set.__init__» noKeywords Builtin.Frozenset.updateFrom;generalize g:pyIter=PI;wp_walk;subst g;refine wpAny_pyIter_list u ?_;refine wX (wpAny_runValue ?_);have y:l<s.z:=vX m;have I:A.in1.in1.in1.handled=none:=by simp[hh]
    have J:l≠(s.heap.push (fy w)).objs.size:=by
     rw[Heap.size_push];exact vS (lt_succ_of_lt y)
    have K:s.z∉[(s.heap.push (fy w)).objs.size,l]:=by
     rw[Heap.size_push];simp only[mem_cons,mem_singleton,not_mem_nil,or_false,not_or];exact⟨vS (lt_succ_self _),ne_of_gt y⟩
    have L:∀(i:Nat)(v:Value),items[i]? = some v->∃x t,v=.str x t/\ss[i]? = some x:=λi v hv=>
     StrsAre.at hi i v (by rw[getElem?_toList];exact hv)
    refine xj ((Walks.list I _ l J items).toS) s.z
     K ss B L hb (items.size - 0) 0 _ (by omega) (uN _)
     ⟨⟨_,vY _ rfl,rfl,rfl⟩,(u.push _)⟩ ?hS0 ?hR
    case hS0=>
     have N:((s.heap.push (fy w)).push { cls:=.type "list_iterator",data:=.fields #[.ref l,.int 0 0] }).get? s.z
       = some (fy w):=vZ _ k
     exact⟨_,#[],0,_,N,⟨rfl,rfl,rfl⟩,rfl,λe he=>by simp at he,List.Perm.refl _,nodup_nil,(by show(0:Nat)<scanBound;decide),rfl,rfl,λz=>absurd rfl z⟩
    case hR=>
     intro s' hm j
     obtain⟨h',g',d',P,S⟩:=s'
     have V:g'=s.gens:=hm.gens
     have ed:d'=s.drawn:=hm.drawn
     have W:S=s.os:=hm.os
     subst V;subst ed;subst W
     show wpAny _ _ _ _ _ _
     refine wY ?_
     show wpAny _ _ (ret Value.none) _ _ _
     refine wY ⟨rfl,h',P,rfl,j,λb o hb e=>?_⟩
     have hb1:b≠s.z:=vS hb
     have X:b≠(s.heap.push (fy w)).objs.size:=by
      rw[Heap.size_push];exact vS (lt_succ_of_lt hb)
     exact hm.heap b o (by simp only[mem_cons,mem_singleton,not_mem_nil,or_false,not_or];exact⟨hb1,X⟩) (vZ _ (vZ _ e))
   ·cases d with
    |error e=>exact G
    |ok a=>
     cases a with
     |ret r=>
      obtain⟨rfl,h',tk,rfl,j,Y⟩:=G;repeat (any_goals (first|assumption|wp_step))
      exact h _ _ j Y
     |_=>exact G.elim
  |_=>exact f.elim
end
open Sem (wp)
section
variable {M:Model}{A:Around}{E:QV}{s:Shared}
def Jq (hn:n≠0)(h:∀k d,k<n->Q k { s with drawn:=d }):wpAny M A (choose T n) Q E s:=by
 intro G p O;unfold choose;rw[Sem.wp_choose];refine⟨hn,?_⟩;have:=h _ (s.drawn.bump T) (Nat.mod_lt (M.w.draws T (s.drawn.get T)) (Nat.pos_of_ne_zero hn));simpa using this
end
def mT {α:Type}:∀(l:List α)(i:Nat),i<l.length->(l.eraseIdx i).length=l.length - 1:=λl i h=>by rw[List.length_eraseIdx,if_pos h]
theorem ml {α:Type}:∀(l:List α)(i:Nat)(x:α),l[i]? = some x->(x::l.eraseIdx i).Perm l
 |[],i,x,h=>by simp at h
 |a::l,0,x,h=>by simp at h;subst h;exact List.Perm.refl _
 |a::l,i+1,x,h=>by
  rw[List.eraseIdx_cons_succ];simp only[getElem?_cons_succ]at h;exact(List.Perm.swap a x _).trans ((ml l i x h).cons a)
theorem Ck {α:Type}:∀(n:Nat)(xs:List α)(s:Shared)(Q:List α->Shared->Prop),xs.length=n->(∀ys d,ys.Perm xs->Q ys { s with drawn:=d })->wpAny M A (drawOrder n xs) Q E s
 |0,xs,s,Q,hl,h=>by
  have:xs=[]:=List.eq_nil_of_length_eq_zero hl;subst this;exact wY (h [] s.drawn (List.Perm.refl _))
 |n+1,[],s,Q,hl,h=>by simp at hl
 |n+1,x::r,s,Q,hl,h=>by
  show wpAny M A (choose .order (x::r).length>>=λi=>match (x::r)[i]? with
   |some G=>(do return G::(<-drawOrder n ((x::r).eraseIdx i)))
   |none=>unsupported "internal:drawOrder") Q E s
  refine wX (Jq (by simp) λk d hk=>?_);obtain⟨y,hy⟩:∃y,(x::r)[k]? = some y:=⟨_,vU hk⟩;rw[hy];refine wX (Ck n _ _ _ (by rw[mT _ _ hk,hl];rfl) λys d' hp=>wY (h _ _ ((hp.cons y).trans (ml _ _ _ hy))))
theorem Cm {α:Type}(next:Nat->Nat):∀(fuel k:Nat)(left:List α)(out:Array α),left.length=fuel->(pickOrder.go next fuel k left out).toList.Perm (out.toList++left)
 |0,k,left,out,hl=>by
  have:left=[]:=List.eq_nil_of_length_eq_zero hl;subst this;unfold pickOrder.go;simp
 |fuel+1,k,left,out,hl=>by
  unfold pickOrder.go;have hk:next k % left.length<left.length:=Nat.mod_lt _ (by omega);obtain⟨y,hy⟩:∃y,left[next k % left.length]? = some y:=⟨_,vU hk⟩;rw[hy];dsimp only;refine(Cm next fuel (k+1) _ _ (by rw[mT _ _ hk];omega)).trans ?_;rw[toList_push,append_assoc];exact(ml _ _ _ hy).append_left _
def DT {α:Type}(next:Nat->Nat)(xs:Array α):(pickOrder next xs).toList.Perm xs.toList:=by
 have:=Cm next xs.size 0 xs.toList #[] (by simp);simpa [pickOrder]using this
def bH:Slot "set_iterator" "__next__" "set_iterator.__next__" :=
 .of (owner:="set_iterator") (n:="__next__") (by rw[typeLookup_type,builtinLookup_eq_fast];kernel_rfl) (by decide +kernel) (by decide +kernel) (by decide +kernel)
  (by first|exact .inl (by decide +kernel)|exact .inr (by decide +kernel)) (by rw[isSubtype_type];kernel_rfl)
def fR:entryFor table "set_iterator.__next__" = some Builtin.«set_iterator.__next__»:=entryFor_of_tree (by kernel_rfl)
def gB (a:Value):argsOk "set_iterator.__next__" ⟨[a],[]⟩:=by unfold argsOk;kernel_rfl
def lO:Slot "set_iterator" "__iter__" "set_iterator.__iter__" :=
 .of (owner:="set_iterator") (n:="__iter__") (by rw[typeLookup_type,builtinLookup_eq_fast];kernel_rfl) (by decide +kernel) (by decide +kernel) (by decide +kernel)
  (by first|exact .inl (by decide +kernel)|exact .inr (by decide +kernel)) (by rw[isSubtype_type];kernel_rfl)
def qU:entryFor table "set_iterator.__iter__" = some Builtin.«dict_keyiterator.__iter__» :=
 entryFor_alias (id':="dict_keyiterator.__iter__") (by kernel_rfl) rfl (by decide +kernel) (by kernel_rfl)
def tS (a:Value):argsOk "set_iterator.__iter__" ⟨[a],[]⟩:=by unfold argsOk;kernel_rfl
def pX:entryFor table "set.__iter__" = some Builtin.«frozenset.__iter__» :=
 entryFor_alias (id':="frozenset.__iter__") (by kernel_rfl) rfl (by decide +kernel) (by kernel_rfl)
noncomputable abbrev mm (G:Value)(i:Nat)(S:Addr)(n M:Nat):Obj:={ cls:=.type "set_iterator",data:=.fields #[G,.int i 0,.ref S,.int n 0,.int M 0] }
section
variable {prog:Program}{w:World}{A:Around}{E:QV}{s:Shared}{it S:Addr}{i ep:Nat}{o:Obj}{es:Array (Int×Value)}{t:SetTable}
def dZ (G:s.heap.get? it=some (mm M i S n ep)):s.TypeIs (.ref it) "set_iterator":=⟨_,G,rfl⟩
def xl {k k':Nat}{x:Value}{Q:Option Value->Shared->Prop}(G:s.heap.get? it=some (mm (.int k 0) i S es.size ep))
  (O:s.heap.get? S=some o) (hd:o.data=.set es ep t) (hf:t.fits es.size=true)
  (T:∀(U:Around)(a:QV)(M:Option (Value×Nat)->Shared->Prop),M (some (x,k')) s->wpAny (model prog w) U (setNext S k i ep) M a s)
  (b:∀h',h'.get? it=some (mm (.int k' 0) (i+1) S es.size ep)->Heap.SameBut it s.heap h'->Q (some x) { s with heap:=h' }):
  wpAny (model prog w) A (pyNext (.ref it)) Q E s:=by
 unfold pyNext;refine wX (wpAny_attempt (wpAny_callSpecial?_slot (name:=Str.ofString "__next__") (dZ G) bH
  (wpAny_call_entry bH (dZ G) fR ?_ (gB _))))
 show wpAny _ _ (fieldsOf (.ref it)>>=_) _ _ s;refine wX (wpAny_fieldsOf G rfl ?_);show wpAny _ _ (setEntries S>>=_) _ _ s;refine wX (wpAny_setEntries_of O hd hf ?_);rw[if_neg (by simp)];show wpAny _ _ (setNext S _ _ _>>=_) _ _ s;simp only[toNat_natCast];refine wX (T _ _ _ ?_);dsimp only;refine wX (wpAny_setField_rec G (by simp) λh1 c b1=>?_);refine wX (wpAny_setField_rec c (by simp) λh2 e2 b2=>?_);exact wY ⟨x,rfl,wY (b h2 (by simpa [rawInt,mm]using e2) (b1.trans b2))⟩
def xm {k:Nat}{Q:Option Value->Shared->Prop}(hh:A.handled=none)(G:s.heap.get? it=some (mm (.int k 0) i S es.size ep))
  (O:s.heap.get? S=some o) (hd:o.data=.set es ep t) (hf:t.fits es.size=true)
  (U:∀(c:Around)(d:QV)(M:Option (Value×Nat)->Shared->Prop),M none s->wpAny (model prog w) c (setNext S k i ep) M d s)
  (e:∀h',Heap.ExtBut it s.heap h'->Q none { s with heap:=h' }):
  wpAny (model prog w) A (pyNext (.ref it)) Q E s:=by
 unfold pyNext;refine wX (wpAny_attempt (wpAny_callSpecial?_slot (name:=Str.ofString "__next__") (dZ G) bH
  (wpAny_call_entry bH (dZ G) fR ?_ (gB _))))
 show wpAny _ _ (fieldsOf (.ref it)>>=_) _ _ s;refine wX (wpAny_fieldsOf G rfl ?_);show wpAny _ _ (setEntries S>>=_) _ _ s;refine wX (wpAny_setEntries_of O hd hf ?_);rw[if_neg (by simp)];show wpAny _ _ (setNext S _ _ _>>=_) _ _ s;simp only[toNat_natCast];refine wX (U _ _ _ ?_);dsimp only;refine wX (wpAny_setField_rec G (by simp) λh1 f b1=>?_);refine wX ?_;simp only[newExc,newTuple];refine wX (wpAny_newObj_type ?_ (by size_fits));refine wX (m:=firstArgMember _ _) (wpAny_of_eq (a:=Value.none) (by first|rfl|(simp only[firstArgMember];rfl)) ?_);refine wpAny_newObj_type ?_ (by size_fits);simp only[raiseNew];refine wX (wpAny_handled ?_);rw[show A.in1.handled=none from hh];refine wX (wY (wpAny_throw ?_));refine wX (wpAny_isInstance (T:="StopIteration") (b:=true) ⟨_,vY _ rfl,rfl⟩ isSubtype_stop ?_);exact wY (e _ ((b1.extBut.push _).push _))
def tT {T:Addr}{pl:LN}{p:Nat}{x:Int×Value}{nt:Nat}{Q:Option Value->Shared->Prop}(G:s.heap.get? it=some (mm (.ref T) i S es.size ep))
  (U:s.heap.get? T=some (seqObj "tuple" (pl.map λ(p:Nat)=>Value.int p 0).toArray nt))
  (O:s.heap.get? S=some o) (hd:o.data=.set es ep t) (hf:t.fits es.size=true) (hp:pl[i]? = some p) (hx:es[p]? = some x)
  (a:∀h',h'.get? it=some (mm (.ref T) (i+1) S es.size ep)->Heap.SameBut it s.heap h'->Q (some x.2) { s with heap:=h' }):
  wpAny (model prog w) A (pyNext (.ref it)) Q E s:=by
 unfold pyNext;refine wX (wpAny_attempt (wpAny_callSpecial?_slot (name:=Str.ofString "__next__") (dZ G) bH
  (wpAny_call_entry bH (dZ G) fR ?_ (gB _))))
 show wpAny _ _ (fieldsOf (.ref it)>>=_) _ _ s;refine wX (wpAny_fieldsOf G rfl ?_);show wpAny _ _ (setEntries S>>=_) _ _ s;refine wX (wpAny_setEntries_of O hd hf ?_);rw[if_neg (by simp)];show wpAny _ _ (seqItems? (.ref T)>>=_) _ _ s;refine wX (wpAny_seqItems U rfl ?_);have M:(pl.map λ(p:Nat)=>Value.int p 0).toArray[(i:Int).toNat]? = some (.int p 0):=by simp[hp]
 dsimp only;rw[M];dsimp only;have e2:wpAny (model prog w) A.in1 (setNextDrawn S (p:Int).toNat (ep:Int).toNat) (λy s'=>y=x.2/\s'=s) (λ_ _=>False) s:=by
  unfold setNextDrawn;refine wX (wpAny_setState_of O hd hf ?_);dsimp only;rw[if_neg (by simp)];simp only[toNat_natCast,hx];exact wY ⟨rfl,rfl⟩
 refine wX (wpAny_mono e2 (λy s' hy=>?_) λ_ _ z=>z.elim);obtain⟨rfl,rfl⟩:=hy;refine wX (wpAny_setField_rec G (by simp) λh1 M b1=>?_);exact wY ⟨_,rfl,wY (a h1 (by simpa [rawInt,mm]using M) b1)⟩
def tU {T:Addr}{pl:LN}{nt:Nat}{Q:Option Value->Shared->Prop}(hh:A.handled=none)(G:s.heap.get? it=some (mm (.ref T) i S es.size ep))
  (O:s.heap.get? T=some (seqObj "tuple" (pl.map λ(p:Nat)=>Value.int p 0).toArray nt))
  (U:s.heap.get? S=some o) (hd:o.data=.set es ep t) (hf:t.fits es.size=true) (hp:pl[i]? = none)
  (c:∀h',Heap.ExtBut it s.heap h'->Q none { s with heap:=h' }):
  wpAny (model prog w) A (pyNext (.ref it)) Q E s:=by
 unfold pyNext;refine wX (wpAny_attempt (wpAny_callSpecial?_slot (name:=Str.ofString "__next__") (dZ G) bH
  (wpAny_call_entry bH (dZ G) fR ?_ (gB _))))
 show wpAny _ _ (fieldsOf (.ref it)>>=_) _ _ s;refine wX (wpAny_fieldsOf G rfl ?_);show wpAny _ _ (setEntries S>>=_) _ _ s;refine wX (wpAny_setEntries_of U hd hf ?_);rw[if_neg (by simp)];show wpAny _ _ (seqItems? (.ref T)>>=_) _ _ s;refine wX (wpAny_seqItems O rfl ?_);have M:(pl.map λ(p:Nat)=>Value.int p 0).toArray[(i:Int).toNat]? = none:=by simpa using hp
 dsimp only;rw[M];dsimp only;refine wX (wpAny_setField_rec G (by simp) λh0 d e=>?_);refine wX (wpAny_setField_rec d (by simp) λh1 M b1=>?_);refine wX ?_;simp only[newExc,newTuple];refine wX (wpAny_newObj_type ?_ (by size_fits));refine wX (m:=firstArgMember _ _) (wpAny_of_eq (a:=Value.none) (by first|rfl|(simp only[firstArgMember];rfl)) ?_);refine wpAny_newObj_type ?_ (by size_fits);simp only[raiseNew];refine wX (wpAny_handled ?_);rw[show A.in1.handled=none from hh];refine wX (wY (wpAny_throw ?_));refine wX (wpAny_isInstance (T:="StopIteration") (b:=true) ⟨_,vY _ rfl,rfl⟩ isSubtype_stop ?_);exact wY (c _ (((e.trans b1).extBut.push _).push _))
def yQ (G:s.heap.get? it=some (mm M i S n ep))(h:Q (.ref it) s):wpAny (model prog w) A (pyIter (.ref it)) Q E s:=by
 refine wpAny_pyIter_slot (dZ G) lO (wpAny_call_entry lO (dZ G) qU ?_ (tS _));show wpAny _ _ (ret (.ref it)) _ _ s;exact wY ⟨_,rfl,"set_iterator",_,dZ G,bH.lookup,h⟩
end
section
variable {prog:Program}{w:World}{A:Around}{E:QV}{s:Shared}{it S:Addr}{i k ep:Nat}{o:Obj}{es:Array (Int×Value)}{t:SetTable}
def u0 (G:s.heap.get? S=some o)(hd:o.data=.set es ep t)(hf:t.fits es.size=true)(hb:w.params.followText "set-order" = true)
  (h:Q (((pickOrder (w.params.setOrder S ep) es)[i]?).map λe=>(e.2,k)) s):wpAny (model prog w) A (setNext S k i ep) Q E s:=by
 unfold setNext;refine wX (wpAny_setState_of G hd hf ?_);dsimp only;unfold setsByText;refine wX (wX (wpAny_askSetting (wY ?_)));show wpAny _ _ (if w.params.followText "set-order" = true then _ else _) _ _ _;rw[if_pos hb,if_neg (by simp)];unfold setWalk setsByText;refine wX (wX (wpAny_setState_of G hd hf ?_));dsimp only;refine wX (wX (wpAny_askSetting (wY ?_)));show wpAny _ _ (if w.params.followText "set-order" = true then _ else _) _ _ _;rw[if_pos hb];refine wX (wpAny_askSetting (wY ?_));exact wY h
def qV (G:s.heap.get? S=some o)(hd:o.data=.set es ep t)(hf:t.fits es.size=true)(hb:w.params.followText "set-order" = false)(hl:t.led=true)(hz:es.size<=1)
  (h:Q (match es[SetTable.below t.place k]?,t.place[SetTable.below t.place k]? with
   |some (_,x),some j=>some (x,j+1)
   |_,_=>none) s):wpAny (model prog w) A (setNext S k i ep) Q E s:=by
 unfold setNext;refine wX (wpAny_setState_of G hd hf ?_);dsimp only;unfold setsByText;refine wX (wX (wpAny_askSetting (wY ?_)));show wpAny _ _ (if w.params.followText "set-order" = true then _ else _) _ _ _;rw[if_neg (by rw[hb];simp)];show wpAny _ _ (if(!t.plain && decide (es.size > 1))=true then _ else _) _ _ _;rw[if_neg (by rw[Qn (by omega)];simp)];show wpAny _ _ ((if(!t.led && !es.isEmpty)=true then unsupported "set:maker-not-led" else pure ())>>=_) _ _ _;rw[hl,if_neg (by simp)];refine wX (wY ?_);exact wY h
def uA (hh:A.handled=none)(hd:o.data=.set es ep t)(hf:t.fits es.size=true)(U:S≠it)(vs:LU)(hv:vs.length=es.size)(sl:Nat->Nat)
  (a:∀i x,vs[i]? = some x->∀(M:Around)(O:QV)(s:Shared)(G:Option (Value×Nat)->Shared->Prop),s.heap.get? S=some o->G (some (x,sl (i+1))) s->wpAny (model prog w) M (setNext S (sl i) i ep) G O s)
  (c:∀(M:Around)(O:QV)(s:Shared)(G:Option (Value×Nat)->Shared->Prop),s.heap.get? S=some o->G none s->wpAny (model prog w) M (setNext S (sl es.size) es.size ep) G O s):
  Walks prog w A it [it,S] [it] es.size (λi v=>vs[i]? = some v) (λi h=>h.get? it=some (mm (.int (sl i) 0) i S es.size ep)/\h.get? S=some o) where
 sub:=λb hb=>by simp at hb;simp[hb]
 frame:=λ_ _ _ st hk=>⟨hk it (by simp) _ st.1,hk S (by simp) _ st.2⟩
 item:=λi s Q E hi st T=>by
  obtain⟨x,hx⟩:∃x,vs[i]? = some x:=⟨_,vU (by omega)⟩;refine xl st.1 st.2 hd hf (λM O G q=>a i x hx M O s G st.2 q) λh' h1 h2=>?_;exact T x h' s.toks hx ⟨h1,h2.extBut S _ U st.2⟩ λb u hb e=>h2.extBut b u (λz=>hb (by simp[z])) e
 done:=λs Q E st T=>xm hh st.1 st.2 hd hf (λM O G q=>c M O s G st.2 q) λh' h1=>T h' s.toks λb u hb e=>h1 b u (λz=>hb (by simp[z])) e
 self:=λ_ _ _ _ st T=>yQ st.1 T
def AQ {T:Addr}{pl:LN}{nt:Nat}(hh:A.handled=none)(hd:o.data=.set es ep t)(hf:t.fits es.size=true)(O:S≠it)(U:T≠it)(hp:pl.Perm (List.range es.size)):
  Walks prog w A it [it,S,T] [it] es.size (λi v=>(pl.map λp=>(es.getD p (0,.none)).2)[i]? = some v)
   (λi h=>h.get? it=some (mm (.ref T) i S es.size ep)/\h.get? S=some o/\h.get? T=some (seqObj "tuple" (pl.map λ(p:Nat)=>Value.int p 0).toArray nt)) where
 sub:=λb hb=>by simp at hb;simp[hb]
 frame:=λ_ _ _ st hk=>⟨hk it (by simp) _ st.1,hk S (by simp) _ st.2.1,hk T (by simp) _ st.2.2⟩
 item:=λi s Q E hi st G=>by
  have M:pl.length=es.size:=by rw[hp.length_eq,length_range]
  obtain⟨p,hx⟩:∃p,pl[i]? = some p:=⟨_,vU (by omega)⟩;have a:p<es.size:=mem_range.mp (hp.mem_iff.mp (vL hx));have he:es[p]? = some (es.getD p (0,.none)):=by rw[getD_eq_getD_getElem?,getElem?_eq_getElem a];rfl
  refine tT st.1 st.2.2 st.2.1 hd hf hx he λh' h1 h2=>?_;exact G _ h' s.toks (by simp[hx]) ⟨h1,h2.extBut S _ O st.2.1,h2.extBut T _ U st.2.2⟩ λb u hb e=>h2.extBut b u (λz=>hb (by simp[z])) e
 done:=λs Q E st G=>by
  have M:pl.length=es.size:=by rw[hp.length_eq,length_range]
  exact tU hh st.1 st.2.2 st.2.1 hd hf (getElem?_eq_none (by omega)) λh' h1=>G h' s.toks λb u hb e=>h1 b u (λz=>hb (by simp[z])) e
 self:=λ_ _ _ _ st G=>yQ st.1 G
end
def AR {α:Type}(es:Array α)(d:α):(List.range es.size).map (λp=>es.getD p d)=es.toList:=by
 apply ext_getElem?;intro i;by_cases h:i<es.size
 ·simp[h,getD_eq_getD_getElem?]
 ·simp[h]
section
variable {prog:Program}{w:World}{A:Around}{E:QV}{s:Shared}
def uB (h:xs=#[j]):SetTable.below xs k=if j<k then 1 else 0:=by
 subst h;by_cases h:j<k
 ·simp[SetTable.below,SetTable.below.go,h]
 ·simp[SetTable.below,SetTable.below.go,h]
def Gb {S:Addr}{g:LS}{Q:QV}(H:iR prog w s.heap S g)
  (n:∀(h':Heap)(d:Drawn)(it:Addr)(vs:LU)(fp:List Addr)(St:Nat->Heap->Prop),(∀c,c.handled=none->Walks prog w c it fp [it] g.length (λi v=>vs[i]? = some v) St)->St 0 h' ->
   (∀b u,s.heap.get? b=some u->h'.get? b=some u)->s.heap.objs.size<=it->(∀b∈fp,b=S\/s.heap.objs.size<=b)->vs.length=g.length->(vs.map strOf).Perm g->(∀v∈vs,∃x t,v=.str x t) ->
   Q (.ref it) { s with heap:=h',drawn:=d }):wpAny (model prog w) A (pyIter (.ref S)) Q E s:=by
 obtain⟨o,es,f,t,a,I,hd,J,hp,nd,hb,hf,K,L⟩:=H;have sz:es.size=g.length:=by rw[<-hp.length_eq,vI,vG]
 have T:S<s.heap.objs.size:=vX a;have C:s.TypeIs (.ref S) "set":=⟨_,a,I.1⟩;have M:∀e∈es.toList,∃x t,e.2=.str x t:=λe he=>by
  obtain⟨⟨k,hk,_⟩,_⟩:=J e he;obtain⟨t,q⟩:=Value.isStrOf_shape (show Value.isStrOf k e.2=true from hk);exact⟨k,t,q⟩
 refine wpAny_pyIter_slot C slot_set_iter (wpAny_call_entry slot_set_iter C pX ?_ (PySem.F.args_set_iter_1 _));show wpAny _ _ (Builtin.Frozenset.sizeOf S>>=_) _ _ s;unfold Builtin.Frozenset.sizeOf;refine wX (wX (wpAny_setEntries_of a hd hf (wY ?_)));unfold setDrawn setsByText;refine wX (wX (wpAny_setState_of a hd hf ?_));dsimp only;refine wX (wX (wpAny_askSetting (wY (wY ?_))));show wpAny _ _ (if(!w.params.followText "set-order" && (!t.plain && decide (es.size > 1)))=true then _ else _) _ _ _;have U:(es.toList.map (·.2)).map strOf=es.toList.map (λe=>strOf e.2):=by rw[uP];rfl
 by_cases G:w.params.followText "set-order" = true
 ·rw[if_neg (by rw[G];simp)];refine wX (wY ?_);refine wX (wpAny_setEpoch_of a hd hf ?_);have pp:=DT (w.params.setOrder S f) es;have D:((pickOrder (w.params.setOrder S f) es).toList.map (·.2)).length=es.size:=by rw[vI,pp.length_eq,vG]
  refine wX (wpAny_newObj_type (wY ⟨_,rfl,"set_iterator",_,⟨_,vY _ rfl,rfl⟩,bH.lookup,?_⟩));refine n _ s.drawn s.heap.objs.size ((pickOrder (w.params.setOrder S f) es).toList.map (·.2)) [s.heap.objs.size,S] (λi h=>h.get? s.heap.objs.size=some (mm (.int ((λ_=>0:Nat->Nat) i:Nat) 0) i S es.size f)/\h.get? S=some o) (λc l=>?_) ?_ (λb u e=>vZ _ e) (vT _) (λb hb=>?_) (D.trans sz) ?_ ?_
  ·rw[<-sz];exact uA l hd hf (vS T) _ D (λ_=>0) (λi x hx c r s y h1 h2=>u0 h1 hd hf G (by
    rw[vA,getElem?_toList]at hx;obtain⟨e,he,rfl⟩:=oY hx;rw[he];exact h2)) (λc r s y h1 h2=>u0 h1 hd hf G (by
    rw[Array.getElem?_eq_none (by rw[<-vG,pp.length_eq,vG];exact vT _)];exact h2))
  ·exact⟨vY _ rfl,vZ _ a⟩
  ·simp only[mem_cons,not_mem_nil,or_false]at hb;rcases hb with rfl|rfl
   ·exact .inr (vT _)
   ·exact .inl rfl
  ·refine List.Perm.trans ?_ hp;rw[<-U];exact(pp.map _).map _
  ·intro v hv;obtain⟨e,he,rfl⟩:=vO hv;exact M e (pp.mem_iff.mp he)
 ·rw[Bool.not_eq_true]at G;have hl:t.led=true:=by rw[K,G];rfl
  by_cases h1:es.size<=1
  ·rw[if_neg (by rw[Qn (by omega)];simp)];refine wX (wY ?_);refine wX (wpAny_setEpoch_of a hd hf ?_);refine wX (wpAny_newObj_type (wY ⟨_,rfl,"set_iterator",_,⟨_,vY _ rfl,rfl⟩,bH.lookup,?_⟩));have R:t.place.size=es.size:=by
    simp only[SetTable.fits,vC,beq_iff_eq,decide_eq_true_eq]at hf;exact hf.1
   refine n _ s.drawn s.heap.objs.size (es.toList.map (·.2)) [s.heap.objs.size,S] (λi h=>h.get? s.heap.objs.size=some (mm (.int ((λi=>if i=0 then 0 else t.place.getD 0 0+1:Nat->Nat) i:Nat) 0) i S es.size f)/\h.get? S=some o) (λc l=>?_) ?_ (λb u e=>vZ _ e) (vT _) (λb hb=>?_) (by rw[vI,vG,sz]) (by rw[U];exact hp) ?_
   ·rw[<-sz];refine uA l hd hf (vS T) _ (by simp) (λi=>if i=0 then 0 else t.place.getD 0 0+1) (λi x hx c r s y z m=>qV z hd hf G hl h1 ?_) (λc r s y z m=>qV z hd hf G hl h1 ?_)
    ·have hi:i<es.size:=by have:=(vV hx).1;simpa using this
     have N:i=0:=by omega
     subst N;obtain⟨j,hj⟩:∃j,t.place=#[j]:=Array.size_eq_one_iff.mp (by omega);rw[if_pos rfl,uB hj,if_neg (by omega)];rw[vA,getElem?_toList]at hx;obtain⟨e,he,rfl⟩:=oY hx;rw[he];simp only[hj]at m |-;simpa using m
    ·by_cases h0:es.size=0
     ·have B:t.place=#[]:=Array.eq_empty_of_size_eq_zero (by omega);have P:es=#[]:=Array.eq_empty_of_size_eq_zero h0;rw[B,P];simpa using m
     ·obtain⟨j,hj⟩:∃j,t.place=#[j]:=Array.size_eq_one_iff.mp (by omega);rw[if_neg h0,uB hj];have:t.place.getD 0 0=j:=by rw[hj];rfl
      rw[this,if_pos (by omega),Array.getElem?_eq_none (by omega)];exact m
   ·exact⟨vY _ rfl,vZ _ a⟩
   ·simp only[mem_cons,not_mem_nil,or_false]at hb;rcases hb with rfl|rfl
    ·exact .inr (vT _)
    ·exact .inl rfl
   ·intro v hv;obtain⟨e,he,rfl⟩:=vO hv;exact M e he
  ·have B:t.plain=false:=L (by omega);rw[if_pos (by rw[G,B,As (by omega)];rfl)];refine wX (Ck es.size (List.range es.size) _ _ (by simp) λpl d pp=>?_);refine wX (wpAny_newTuple ?_ (by rw[vI,pp.length_eq,length_range,sz];exact fits_of_scanBound hb));refine wX (wpAny_setEpoch_of (vZ _ a) hd hf ?_);refine wX (wpAny_newObj_type (wY ⟨_,rfl,"set_iterator",_,⟨_,vY _ rfl,rfl⟩,bH.lookup,?_⟩));have hsz:(s.heap.push (seqObj "tuple" (pl.map λ(p:Nat)=>Value.int p 0).toArray 0)).objs.size=s.heap.objs.size+1:=size_push' _ _;have O:((pl.map λp=>(es.getD p (0,.none)).2)).Perm (es.toList.map (·.2)):=by
    have:=(pp.map λp=>es.getD p (0,Value.none)).map (·.2);rw[AR]at this;rw[uP]at this;exact this
   refine n _ d _ (pl.map λp=>(es.getD p (0,.none)).2) [(s.heap.push (seqObj "tuple" (pl.map λ(p:Nat)=>Value.int p 0).toArray 0)).objs.size,S,s.heap.objs.size] (λi h=>h.get? (s.heap.push (seqObj "tuple" (pl.map λ(p:Nat)=>Value.int p 0).toArray 0)).objs.size=some (mm (.ref s.heap.objs.size) i S es.size f)/\h.get? S=some o/\h.get? s.heap.objs.size=some (seqObj "tuple" (pl.map λ(p:Nat)=>Value.int p 0).toArray 0)) (λc l=>?_) ?_ (λb u e=>vZ _ (vZ _ e)) ?_ (λb hb=>?_) ?_ ?_ ?_
   ·rw[<-sz];exact AQ (nt:=0) l hd hf (by show S≠(s.heap.push _).objs.size;rw[size_push'];exact vS (lt_succ_of_lt T)) (by show s.heap.objs.size≠(s.heap.push _).objs.size;rw[size_push'];exact vS (lt_succ_self _)) pp
   ·exact⟨vY _ rfl,vZ _ (vZ _ a),vZ _ (vY _ rfl)⟩
   ·show s.heap.objs.size<=(s.heap.push _).objs.size;rw[size_push'];omega
   ·simp only[mem_cons,not_mem_nil,or_false]at hb;rcases hb with rfl|rfl|rfl
    ·refine .inr ?_;show s.heap.objs.size<=(s.heap.push _).objs.size;rw[size_push'];omega
    ·exact .inl rfl
    ·exact .inr (vT _)
   ·rw[O.length_eq,vI,vG,sz]
   ·exact((O.map strOf).trans (by rw[U])).trans hp
   ·intro v hv;obtain⟨e,he,rfl⟩:=vO (O.mem_iff.mp hv);exact M e he
end
def DU (h:ItemsOf (λi v=>vs[i]? = some v) G vs.length):G.toList=vs:=by
 apply ext_getElem?;intro i;by_cases hi:i<G.size
 ·have e:G[i]? = some G[i]:=getElem?_eq_getElem hi;rw[getElem?_toList,e,h.2 i _ e]
 ·rw[getElem?_eq_none (by rw[vG];omega),getElem?_eq_none (by rw[<-h.1];omega)]
section
variable {prog:Program}{w:World}{A:Around}{E:QV}{s:Shared}
def yR (hh:A.handled=none)(g:iR prog w s.heap S ts)
  (D:∀s' vs,(∀b u,s.heap.get? b=some u->s'.heap.get? b=some u)->s'.gens=s.gens->s'.os=s.os->vs.length=ts.length->(vs.map strOf).Perm ts->(∀v∈vs,∃x t,v=.str x t)->Q vs s'):
  wpAny (model prog w) A (collect (.ref S)) Q E s:=by
 have G:∀(s1:Shared),iR prog w s1.heap S ts->s1.TypeIs (.ref S) "set":=λs1 h=>by
  obtain⟨o,_,_,_,i,H,_⟩:=h;exact⟨o,i,H.1⟩
 have I:S<s.heap.objs.size:=by obtain⟨o,_,_,_,i,_⟩:=g;exact vX i
 have T:ts.length<scanBound:=by obtain⟨_,_,_,_,_,_,_,_,_,_,h,_⟩:=g;exact h
 unfold collect;refine wX (wpAny_runValue (codeAny_builtin PySem.F.entry_proto_collect ?_));rw[Around.under_plainId PySem.F.plain_proto_collect _];show wpAny _ A.in1 (newList []>>=λl=>again (.builtin "list.__iadd__" ⟨[l,.ref S],[]⟩)) _ _ s;refine wX (wpAny_newObj_type ?_);refine wY ⟨plainId_quiet PySem.F.plain_list_iadd _,codeAny_builtin PySem.F.entry_list_iadd ?_⟩;rw[Around.under_plainId PySem.F.plain_list_iadd _];show wpAny _ A.in1 (Builtin.List.listExtendWith (.ref s.heap.objs.size) (.ref S) (.ref s.heap.objs.size)) _ _ _;unfold Builtin.List.listExtendWith;have U:iR prog w (s.heap.push { cls:=.type "list",data:=.seq ([]:LU).toArray }) S ts:=g.at λo e=>vZ _ e;refine wX (wpAny_typeOf (G _ U) ?_);have n:s.heap.objs.size≠S:=ne_of_gt I;have h1:Builtin.List.listSameRef (.ref s.heap.objs.size) (.ref S)=false:=by simp[Builtin.List.listSameRef,n]
 have h2:(Value.type "set" == Value.type "list")=false:=by decide
 have h3:(Value.type "set" == Value.type "tuple")=false:=by decide
 simp only[h1,h2,h3,Bool.or_false,uV,if_false];refine wX (Gb (s:={ s with heap:=s.heap.push { cls:=.type "list",data:=.seq ([]:LU).toArray } }) U λh' d it vs fp St W J hk tH j p a c=>?_);have k:iR prog w h' S ts:=U.at λo e=>hk _ _ e;refine wX (wpAny_holding ?_);unfold Builtin.List.listLengthHint;refine wX (wpAny_specialOf (G _ k) PySem.F.slot_set_len.lookup ?_);wp_delta;refine wX (wpAny_isInstance (G _ k) sub_set_self ?_);show wpAny _ A.in1 (typeOf (Value.ref S)>>=_) _ _ _;refine wX (wpAny_typeOf (G _ k) ?_);refine wY ?_;rw[if_pos (by decide)];refine wX (wpAny_rule ?_);refine wX ?_;have M:(s.heap.push { cls:=.type "list",data:=.seq ([]:LU).toArray }).objs.size=s.heap.objs.size+1:=size_push' _ _;have q:h'.get? s.heap.objs.size=some { cls:=.type "list",data:=.seq ([]:LU).toArray }:=hk _ _ (vY _ rfl);show wpAny _ A.in1 (updateSeq s.heap.objs.size (·.push .none)>>=λ_=>updateSeq s.heap.objs.size (·.pop)) _ _ _;refine wX (wpAny_updateSeq q rfl ?_);have r:=Heap.get?_update_self (Obj.mapSeq (·.push Value.none)) q rfl;refine wpAny_updateSeq r rfl ?_;have K:=Heap.get?_update_self (Obj.mapSeq (·.pop)) r rfl;have y:s.heap.objs.size∉fp:=λhm=>by
  rcases j _ hm with z|z
  ·exact n z
  ·rw[M]at z;exact absurd z (Nat.not_succ_le_self _)
 have B:∀b u,b≠s.heap.objs.size->h'.get? b=some u ->
   ((h'.update s.heap.objs.size (Obj.mapSeq (·.push Value.none))).update s.heap.objs.size (Obj.mapSeq (·.pop))).get? b=some u :=
  λb u hb e=>(Heap.get?_update_other _ _ (Ne.symm hb)).trans ((Heap.get?_update_other _ _ (Ne.symm hb)).trans e)
 have C:=W A.in1 hh;refine wY ⟨plainId_quiet plain_extend_loop _,codeAny_extend_loopS C.toS (fits_of_scanBound T) _ y _ ts.length 0 _ _ _ rfl (uN _)
  (C.frame 0 _ _ J λb hb u e=>B b u (λz=>y (z ▸ hb)) e) K (ItemsOf.nil _) λs' f L hm m O=>?_⟩
 show wpAny _ A (load s.heap.objs.size>>=_) _ _ s';refine wX (wpAny_load m ?_);rw[<-p]at O;refine wY ?_;show Q f.toList s';rw[DU O];refine D s' vs (λb u e=>hm.heap b u (λhb=>?_) (B b u (vS (vX e)) (hk _ _ (vZ _ e)))) hm.gens hm.os p a c;have hl:=vX e;simp only[mem_cons,not_mem_nil,or_false]at hb;rcases hb with rfl|rfl
 ·exact absurd hl (Nat.lt_irrefl _)
 ·rw[M]at tH;exact absurd (vQ hl (Nat.le_of_succ_le tH)) (Nat.lt_irrefl _)
def AS (hh:A.handled=none)(h:iR prog w s.heap S ts)(i:ts.length<64)
  (j:∀(s1:Shared)(h':Heap)(a:Addr)(out:AV)(n:Nat)(G:LS),(∀b u,s.heap.get? b=some u->s1.heap.get? b=some u)->s1.os=s.os->s1.gens=s.gens->(∀b u,s1.heap.get? b=some u->h'.get? b=some u)->s1.z<=a->h'.get? a=some (seqObj "list" out n) ->
   StrsAre out.toList G->G.Perm ts->sortedS G=true->Q (.ref a) { s1 with heap:=h' }):
  wpAny (model prog w) A (call (.builtin "sorted") [.ref S]) Q E s:=by
 refine Calls.call_function_entry kind_sorted plain_sorted entry_sorted (args_sorted1 _) ?_;unfold Builtin.«sorted»;refine wX (m:=checkCount "sorted" 1 1 _) (wY ?_);refine wX (yR (A:=A.in1) (by exact hh) h λs1 vs hk k d U M c=>?_);have O:StrsAre vs (vs.map strOf):=strsAre_map vs c;refine wX (wpAny_newList ?_ (by rw[U,sizeLine_eq];omega));have T:(s1.heap.push (seqObj "list" vs.toArray 0)).get? s1.z=some (seqObj "list" vs.toArray 0):=vY _ rfl;show wpAny _ _ _ _ _ { s1 with heap:=s1.heap.push (seqObj "list" vs.toArray 0) };refine wX (wpAny_holding (wpAny_call_entry slot_list_sort ⟨_,T,rfl⟩ entry_list_sort (list_sort_treeK strKind_oneLt T O.keysOf (λf g ax e=>keyKind_strs (by rw[<-e];exact O)) (by rw[U];exact i) λl o p=>⟨_,rfl,?_⟩) (args_list_sort _)));obtain⟨G,b1,b2,b3⟩:=sorted_out_str O o p;obtain⟨e,he⟩:=sortedHeap_at (out:=(arrOf l).map (·.2)) T;refine wY ⟨_,rfl,j s1 _ _ _ e G hk d k (λb u q=>?_) (vT _) he b1 (b2.trans M) b3⟩;have hl:=vX q;rw[sortedHeap_old (vS hl) (by rw[size_push'];exact lt_succ_of_lt hl)];exact vZ _ q
end
end DL
namespace DL
open PySem PySem.Spec PyProof.Rows L2
def xn (a b:Str):Prop:=¬b.cps.toList<a.cps.toList
def Cn:ltCps b.cps.toList a.cps.toList=false↔xn a b:=by rw[ltCps_eq,decide_eq_false_iff_not];rfl
def uC (h:xn a b)(k:xn b c):xn a c:=by
 unfold xn at *;exact not_lt.mpr (le_trans (not_lt.mp h) (not_lt.mp k))
def Gc (h:xn a b)(k:xn b a):a=b:=by
 have e:a.cps.toList=b.cps.toList:=le_antisymm (not_lt.mp h) (not_lt.mp k);obtain⟨a⟩:=a;obtain⟨b⟩:=b;have:a=b:=toList_inj.mp e;rw[this]
noncomputable def AT (x:Str):LS->LS
 |[]=>[x]
 |y::r=>if ltCps y.cps.toList x.cps.toList then y::AT x r else x::y::r
noncomputable def kG (l:LS):LS:=l.foldr AT []
theorem oy (x:Str):∀l,(AT x l).Perm (x::l)
 |[]=>List.Perm.refl _
 |y::r=>by
  unfold AT;split
  ·exact((oy x r).cons y).trans (List.Perm.swap x y r)
  ·exact List.Perm.refl _
theorem fB:∀l,(kG l).Perm l
 |[]=>List.Perm.refl _
 |x::l=>(oy x (kG l)).trans ((fB l).cons x)
theorem uE (x:Str):∀l,l.Pairwise xn->(AT x l).Pairwise xn
 |[],_=>by simp[AT]
 |y::r,h=>by
  obtain⟨h1,h2⟩:=pairwise_cons.mp h;unfold AT;split
  ·rename_i hl;refine pairwise_cons.mpr ⟨λz hz=>?_,uE x r h2⟩;rcases vP ((oy x r).mem_iff.mp hz)with rfl|hz
   ·rw[ltCps_eq,decide_eq_true_eq]at hl;exact λk=>lt_irrefl _ (lt_trans hl k)
   ·exact h1 z hz
  ·rename_i hl;rw[Bool.not_eq_true]at hl;have G:xn x y:=Cn.mp hl;refine pairwise_cons.mpr ⟨λz hz=>?_,h⟩;rcases vP hz with rfl|hz
   ·exact G
   ·exact uC G (h1 z hz)
theorem qW:∀l,(kG l).Pairwise xn
 |[]=>List.Pairwise.nil
 |x::l=>uE x _ (qW l)
theorem pj:∀(l:LS)(p:Str),risingS p l=true->(p::l).Pairwise xn
 |[],p,_=>List.pairwise_singleton _ _
 |x::r,p,h=>by
  have h':(!ltCps x.cps.toList p.cps.toList && risingS x r)=true:=h;rw[vC]at h';have G:xn p x:=Cn.mp (by simpa using h'.1);have M:=pj r x h'.2;refine pairwise_cons.mpr ⟨λz hz=>?_,M⟩;rcases vP hz with rfl|hz
  ·exact G
  ·exact uC G ((pairwise_cons.mp M).1 z hz)
theorem yS:∀(l:LS),sortedS l=true->l.Pairwise xn
 |[],_=>List.Pairwise.nil
 |x::r,h=>pj r x h
def yT (a:Str):xn a a:=lt_irrefl _
theorem qX:∀(l1 l2:LS),l1.Perm l2->l1.Pairwise xn->l2.Pairwise xn->l1=l2
 |[],l2,p,_,_=>(nil_perm.mp p).symm
 |x::O,[],p,_,_=>absurd p.length_eq (by simp)
 |x::O,y::T,p,h1,h2=>by
  have G:xn x y:=by
   rcases vP (p.mem_iff.mpr (mX ..))with z|z
   ·rw[z];exact yT _
   ·exact(pairwise_cons.mp h1).1 y z
  have M:xn y x:=by
   rcases vP (p.mem_iff.mp (mX ..))with z|z
   ·rw[z];exact yT _
   ·exact(pairwise_cons.mp h2).1 x z
  have e:=Gc G M;subst e;rw[qX O T (List.Perm.cons_inv p) (pairwise_cons.mp h1).2 (pairwise_cons.mp h2).2]
def uF (p:G.Perm l)(h:sortedS G=true):G=kG l:=qX _ _ (p.trans (fB l).symm) (yS _ h) (qW l)
section
variable {X:Cx}
noncomputable def yU (X:Cx)(S:Addr)(G:LS):HO:=.ext λh=>iR X.prog X.w h S G
def uG (I:Inv X ah σ H s)(k:∀b u,s.heap.get? b=some u->s1.heap.get? b=some u)(G:s1.os=s.os)(M:s1.gens=s.gens):Inv X ah σ H s1:=by
 have O:=I.step (g':=s.gens) (d':=s1.drawn) (t':=s1.toks) (h':=s1.heap) (H':=H) (ch:=[]) (λ_ z=>nomatch z) (λb o _ _ _ e _=>k b o e) (λb o _ _ _ e _=>⟨o.slots,k b o e⟩) (λ_ _ _ _ n=>n)
  (λb o _ e=>⟨o,k b o e⟩) (λ_ _ e=>e) (λ_ _ _ e=>e) (λ_ _ e=>e) (λm hm=>?_) (I.hok.kept k) I.bare
 ·obtain⟨h1,g1,d1,U,a⟩:=s1;cases G;cases M
  exact O
 ·obtain⟨o,es,T,G,r⟩:=hm;exact⟨o,es,T,k _ o G,r⟩
def pq (hc:X.calm=true):cr X (.type "set") (λxs H Q=>∃p ys ss,xs=[.ref p]/\gN X.K H p ys/\(∀its,bq ys its->StrsAre its ss)/\ss.length<4000/\∀S,H S=none->Q (.ref S) (upd H S (yU X S (gG ss)))):=by
 intro ah s σ H xs us Q I r h;obtain⟨p,ys,ss,rfl,hq,hs,T,q⟩:=h;obtain⟨u,rfl,U⟩:=iq r;cases U
 obtain⟨its,a,pl,hz⟩:=I.list hq;have G:=hs its a;have M:its.length=ss.length:=by rw[<-G.strs,vI]
 refine qT (I.ok.hd hc) pl.isList (by simpa using G) (by simp only[vH];unfold scanBound;omega) λh' tk O hk=>?_;refine⟨.ref s.z,_,I.laid (t':=tk) (λb u e=>hk b u (vX e) e) (vT _) ?_,rfl,q _ (I.hok.fresh (vT _))⟩;refine⟨O,?_,λh1 h2 z k=>z.at k⟩;obtain⟨o,_,_,_,c,_⟩:=O;exact⟨o,c⟩
def pY (hc:X.calm=true):cr X (.builtin "sorted") (λxs H Q=>∃S M,xs=[.ref S]/\H S=some (yU X S M)/\M.length<64/\∀l,H l=none->Q (.ref l) (upd H l (.lst ((kG M).map .str)))):=by
 intro ah s σ H xs us Q I r h;obtain⟨S,M,rfl,c,O,q⟩:=h;obtain⟨u,rfl,d⟩:=iq r;cases d
 have f:iR X.prog X.w s.heap S M:=(I.hok S _ c).1;refine AS (I.ok.hd hc) f O λs1 h' a out n g k1 i j k2 hp he T G U=>?_;have e:=uF G U;subst e;have b:=uG I k1 i j;have hv:∀ {its:LU}{zs:LS},StrsAre its zs->bq (zs.map V.str) its:=λz=>by
  induction z with
  |nil=>exact .nil
  |cons x t _ k=>exact .cons ⟨t,rfl⟩ k
 refine⟨.ref a,_,b.laid (t':=s1.toks) k2 hp (show bI X.prog X.w _ h' _ (.lst _)from ⟨?_,out.toList,n,hv T,he⟩),rfl,q _ (b.hok.fresh hp)⟩;rw[vI,(fB M).length_eq,sizeLine_eq];omega
end
@[simp] def jw:D->OB
 |.lst ds=>(ju ds).bind λss=>if ss.length<64 then some (.lst ((kG (gG ss)).map .str),true)else none
 |_=>none
@[simp] def mU:D->OB
 |.lst ds=>(ju ds).bind λss=>if ss.length<4000 then some (.int ((gG ss).length:Nat),false)else none
 |_=>none
def qY:bootBuiltins "sorted" = some (.builtin "sorted"):=by decide +kernel
def Lp:bootBuiltins "set" = some (.type "set"):=by decide +kernel
theorem mV {K:Frag}{N:Hp}:∀(zs:LS),IsL K N (zs.map V.str) (zs.map D.str)
 |[]=>.nil
 |z::zs=>.cons (.str z) (mV zs)
section
variable {X:Cx}{e:Expr}{pos pos2 p p2:Pos}
def qZ (hc:X.calm=true)(m1:X.mg "sorted" = none)(m2:X.mg "set" = none)(he:JE X e f)(g1:Gl X "sorted":=by rfl)(b:Gl X "set":=by rfl)
  (h1:starEach [e] X.env=(false,eval e X.env)::starEach [] X.env:=by rfl):JE X (.Call (.Name "sorted" p) [.Call (.Name "set" p2) [e] [] pos2] [] pos) (f1 jw f):=by
 refine PE.to (qB (pY hc) g1 m1 qY (eI (oi (pq hc) b m2 Lp (eI he gO h1) (he:=h1)) gO)) λσ H Q q=>?_;obtain⟨B,ρ,d',bb,c,r,G,q⟩:=q;obtain⟨T,ex,G⟩:=oX G;refine⟨B,ρ,T.1,T.2,c,r,ex,λv m N1 O i1 n=>?_⟩;obtain⟨xd,s⟩:=T;cases i1<;>try (simp[jw]at G;done)
 rename_i t vs ds h hl;simp only[jw]at G;obtain⟨ss,d,G⟩:=oX G;split at G
 ·rename_i U;cases G
  refine⟨_,_,ss,rfl,O.nh.seq h,λits g=>kE g hl d,by omega,λS i=>⟨S,_,rfl,aB,lt_of_le_of_lt (qS ss) U,λl M=>?_⟩⟩;have a:=Ext.laid (o:=yU X S (gG ss)) O.nh i;have j:=Ext.laid (o:=.lst ((kG (gG ss)).map V.str)) a.nh M;have k:H l=none:=((O.trans a).hh).free M;exact q _ _ _ ((O.trans a).trans j) (.lst (gN.of aB) (mV _)) λ_=>⟨_,_,_,rfl,rfl,k,aB,mV _⟩
 ·cases G
end
end DL
namespace DL
open PySem PySem.Spec PySem.W PyProof.Rows
inductive Run (n:Nat)(lt:Nat->Nat->Bool){α:Type}:KasT α->α->Prop where
 |ret (a:α):Run n lt (.ret a) a
 |ask {i j:Nat}{k:Bool->KasT α}{a:α}(hi:i<n) (hj:j<n) (h:Run n lt (k (lt i j)) a):Run n lt (.ask i j k) a
def Run.bind {n:Nat}{lt:Nat->Nat->Bool}{α G:Type}{t:KasT α}{f:α->KasT G}{a:α}{b:G}(h:Run n lt t a)(k:Run n lt (f a) b):Run n lt (t.bind f) b:=by
 induction h with
 |ret a=>exact k
 |ask hi hj _ M=>exact .ask hi hj (M k)
def Run.wp {n:Nat}{lt:Nat->Nat->Bool}{α:Type}{G:Nat->Nat->(Bool->Shared->Prop)->Shared->Prop}{Q:α->Shared->Prop}{t:KasT α}{a:α}(J:Shared->Prop)
  (hc:∀i j C s,i<n->j<n->J s->(∀s',J s'->C (lt i j) s')->G i j C s) (h:Run n lt t a):∀ {s:Shared},J s->(∀s',J s'->Q a s')->t.kasWp G Q s:=by
 induction h with
 |ret a=>intro s M O;exact O s M
 |ask hi hj _ U=>intro s M O;exact hc _ _ _ _ hi hj M λs' T=>U T O
section
variable {n:Nat}{rk:Nat->Int}
noncomputable abbrev rb (rk:Nat->Int)(i j:Nat):Bool:=decide (rk i<rk j)
noncomputable def c6 (rk:Nat->Int)(p:Array Nat)(k:Nat):Int:=rk (p.getD k 0)
structure nY (n:Nat)(p:Array Nat):Prop where
 size:p.size=n
 perm:p.toList.Perm (List.range n)
def nY.lt {p:Array Nat}(h:nY n p){k:Nat}(hk:k<n):p.getD k 0<n:=by
 have G:k<p.size:=by rw[h.size];exact hk
 have:p.getD k 0=p[k]:=by rw[getD_eq_getD_getElem?,getElem?_eq_getElem G];rfl
 rw[this];exact mem_range.mp (h.perm.mem_iff.mp (by simp))
def nY.rev {p:Array Nat}(h:nY n p)(i j:Nat):nY n (kas_rev p i j) :=
 ⟨(mirror_size _ _ _ _).trans h.size,(Array.perm_iff_toList_perm.mp (mirror_perm p i j _)).trans h.perm⟩
def nY.bub {p:Array Nat}(h:nY n p)(k d:Nat):nY n (bubble p k d) :=
 ⟨(bubble_size _ _ _).trans h.size,(Array.perm_iff_toList_perm.mp (bubble_perm p k d)).trans h.perm⟩
def xo {p:Array Nat}{i j:Nat}(hj:j<=p.size)(k:Nat):c6 rk (kas_rev p i j) k=if i<=k/\k<j then c6 rk p (i+j - 1 - k)else c6 rk p k:=by
 unfold c6 kas_rev;rw[getD_eq_getD_getElem?,getElem?_mirror_all hj];split<;>rw[getD_eq_getD_getElem?]
def Gd {p:Array Nat}{G d:Nat}(hs:G<p.size)(hd:d<=G)(k:Nat):c6 rk (bubble p G d) k=if k=G - d then c6 rk p G else if G - d<k/\k<=G then c6 rk p (k - 1)else c6 rk p k:=by
 unfold c6;simp only[getD_eq_getD_getElem?];rw[getElem?_bubble hs d hd];repeat' split
 all_goals rfl
def Up (rk:Nat->Int)(p:Array Nat)(m:Nat):Prop:=∀i j,i<=j->j<m->c6 rk p i<=c6 rk p j
def xp (rk:Nat->Int)(p:Array Nat)(m:Nat):Prop:=∀i j,i<=j->j<m->c6 rk p j<=c6 rk p i
def MT (p:Array Nat):Up rk p 1:=λi j h1 h2=>by
 have:i=j:=by omega
 subst this;exact le_refl _
theorem xq {p:Array Nat}(h:nY n p){r:Nat}(a:r<=n):∀(f m:Nat),r - m=f->1<=m->m<=r->Up rk p m->∃G,Run n (rb rk) (kas_asc p f m) G/\m<=G/\G<=r/\Up rk p G/\(G<r->c6 rk p G<c6 rk p (G - 1))
 |0,m,hf,h1,hm,hu=>⟨m,.ret m,vT _,hm,hu,λz=>by omega⟩
 |f+1,m,hf,h1,hm,hu=>by
  have T:=h.lt (k:=m) (by omega);have U:=h.lt (k:=m - 1) (by omega);by_cases hc:c6 rk p m<c6 rk p (m - 1)
  ·refine⟨m,.ask T U ?_,vT _,hm,hu,λ_=>hc⟩;have:rb rk (p.getD m 0) (p.getD (m - 1) 0)=true:=As hc;rw[this,if_pos rfl];exact .ret m
  ·have M:Up rk p (m+1):=λi j O hj=>by
    by_cases e:j=m
    ·subst e;by_cases e2:i=j
     ·subst e2;exact le_refl _
     ·have:=hu i (j - 1) (by omega) (by omega);omega
    ·exact hu i j O (by omega)
   obtain⟨G,b,l,c,d,g⟩:=xq h a f (m+1) (by omega) (by omega) (by omega) M;refine⟨G,.ask T U ?_,by omega,c,d,g⟩;have:rb rk (p.getD m 0) (p.getD (m - 1) 0)=false:=Qn hc;rw[this,if_neg uX];exact b
def Jr (rk:Nat->Int)(p:Array Nat)(m q:Nat):Prop:=q+1<=m/\∀k,m - (q+1)<=k->k<m->c6 rk p k=c6 rk p (m - 1)
def yV {p:Array Nat}{m q:Nat}(hs:m<=p.size)(hf:Jr rk p m q)(k:Nat):c6 rk (kas_rev p (m - (q+1)) m) k=c6 rk p k:=by
 rw[xo hs];split
 ·rename_i hk;have h0:=hf.1;rw[hf.2 k hk.1 hk.2,hf.2 _ (by omega) (by omega)]
 ·rfl
def Co {p G:Array Nat}{m:Nat}(e:∀k,c6 rk G k=c6 rk p k)(h:xp rk p m):xp rk G m:=λi j h1 h2=>by rw[e,e];exact h i j h1 h2
def rd (p:Array Nat){m:Nat}(h:1<=m):Jr rk p m 0:=⟨h,λk h1 h2=>by
 have:k=m - 1:=by omega
 rw[this]⟩
theorem mW {r:Nat}(s:r<=n):∀(f:Nat)(p:Array Nat)(m q:Nat),nY n p->r - m=f->1<=m->m<=r->xp rk p m->Jr rk p m q->∃G M U,Run n (rb rk) (kas_desc f p m q) (G,M,U)/\nY n G/\m<=M/\M<=r/\xp rk G M/\Jr rk G M U
 |0,p,m,q,h,hf,h1,hm,hd,hq=>⟨p,m,q,.ret _,h,vT _,hm,hd,hq⟩
 |f+1,p,m,q,h,hf,h1,hm,hd,hq=>by
  have a:=h.lt (k:=m) (by omega);have b:=h.lt (k:=m - 1) (by omega);have step:∀G:Array Nat,(∀k,c6 rk G k=c6 rk p k)->c6 rk p m<=c6 rk p (m - 1)->xp rk G (m+1):=λG e x i j t hj=>by
   rw[e,e];by_cases z:j=m
   ·subst z;by_cases w:i=j
    ·subst w;exact le_refl _
    ·have:=hd i (j - 1) (by omega) (by omega);omega
   ·exact hd i j t (by omega)
  by_cases hc:c6 rk p m<c6 rk p (m - 1)
  ·have O:rb rk (p.getD m 0) (p.getD (m - 1) 0)=true:=As hc;by_cases c:q > 0
   ·have e:=yV (p:=p) (by rw[h.size];omega) hq;obtain⟨G,M,U,g1,d,u,g,l,o⟩:=mW s f (kas_rev p (m - (q+1)) m) (m+1) 0 (h.rev _ _) (by omega) (by omega) (by omega) (step _ e (by omega)) (rd _ (by omega));refine⟨G,M,U,.ask a b ?_,d,by omega,g,l,o⟩;rw[O,if_pos rfl,if_pos c];exact g1
   ·obtain⟨G,M,U,g1,d,u,g,l,o⟩:=mW s f p (m+1) 0 h (by omega) (by omega) (by omega) (step _ (λ_=>rfl) (by omega)) (rd _ (by omega));refine⟨G,M,U,.ask a b ?_,d,by omega,g,l,o⟩;rw[O,if_pos rfl,if_neg c];exact g1
  ·have O:rb rk (p.getD m 0) (p.getD (m - 1) 0)=false:=Qn hc;by_cases v:c6 rk p (m - 1)<c6 rk p m
   ·have T:rb rk (p.getD (m - 1) 0) (p.getD m 0)=true:=As v;refine⟨p,m,q,.ask a b ?_,h,vT _,hm,hd,hq⟩;rw[O,if_neg uX];refine .ask b a ?_;rw[T,if_pos rfl];exact .ret _
   ·have T:rb rk (p.getD (m - 1) 0) (p.getD m 0)=false:=Qn v;have he:c6 rk p m=c6 rk p (m - 1):=by omega
    obtain⟨G,M,U,g1,d,u,g,l,o⟩:=mW s f p (m+1) (q+1) h (by omega) (by omega) (by omega) (step _ (λ_=>rfl) (by omega)) ⟨by have:=hq.1;omega,λk k1 k2=>by
     rw[Nat.add_sub_cancel];by_cases z:k=m
     ·rw[z]
     ·rw[hq.2 k (by omega) (by omega),he]⟩
    refine⟨G,M,U,.ask a b ?_,d,by omega,g,l,o⟩;rw[O,if_neg uX];refine .ask b a ?_;rw[T,if_neg uX];exact g1
def yW {r:Nat}(O:r<=n){p:Array Nat}(h:nY n p){m:Nat}(h1:1<=m)(hm:m<=r)(hd:xp rk p m):∃G M,Run n (rb rk) (kas_tail3 m r p) (G,M)/\nY n M/\1<=G/\G<=r/\Up rk M G:=by
 have hu:Up rk (kas_rev p 0 m) m:=λi j T hj=>by
  rw[xo (by rw[h.size];omega),xo (by rw[h.size];omega),if_pos (by omega),if_pos (by omega)];exact hd _ _ (by omega) (by omega)
 obtain⟨G,U,c,a,b,_⟩:=xq (h.rev 0 m) O (r - m) m rfl h1 hm hu;exact⟨G,_,U.bind (.ret _),h.rev 0 m,by omega,a,b⟩
def yX {r:Nat}(O:r<=n){p:Array Nat}(h:nY n p){m:Nat}(hm:m+1<=r)(hd:xp rk p (m+1)):∃G M,Run n (rb rk) (kas_descPart m r p) (G,M)/\nY n M/\1<=G/\G<=r/\Up rk M G:=by
 obtain⟨d,m1,U,g1,T,e,a,b,c⟩:=mW O (r - (m+1)) p (m+1) 0 h rfl (by omega) hm hd (rd _ (by omega));by_cases hq:U > 0
 ·obtain⟨G,M,k1,k2,k3,k4,k5⟩:=yW O (T.rev (m1 - (U+1)) m1) (m:=m1) (by omega) a (Co (yV (by rw[T.size];omega) c) b);exact⟨G,M,g1.bind (by dsimp only;rw[if_pos hq];exact k1),k2,k3,k4,k5⟩
 ·obtain⟨G,M,k1,k2,k3,k4,k5⟩:=yW O T (m:=m1) (by omega) a b;exact⟨G,M,g1.bind (by dsimp only;rw[if_neg hq];exact k1),k2,k3,k4,k5⟩
def DV {p:Array Nat}(h:nY n p)(hn:1<=n):∃M O,Run n (rb rk) (kas_count n p) (M,O)/\nY n O/\1<=M/\M<=n/\Up rk O M:=by
 obtain⟨m,a,g,l,b,o⟩:=xq h (vT n) (n - 1) 1 rfl (vT 1) hn (MT (rk:=rk) p);by_cases e:m=n
 ·exact⟨m,p,a.bind (by rw[if_pos (by simp[e])];exact .ret _),h,g,l,b⟩
 ·have U:=o (by omega);have d:¬(m == n)=true:=by simp[e]
  by_cases T:m > 1
  ·by_cases hc:c6 rk p 0<c6 rk p (m - 1)
   ·refine⟨m,p,a.bind ?_,h,g,l,b⟩;rw[if_neg d,if_pos T];refine .ask (h.lt (by omega)) (h.lt (by omega)) ?_;have:rb rk (p.getD 0 0) (p.getD (m - 1) 0)=true:=As hc;rw[this,if_pos rfl];exact .ret _
   ·have G:∀k,k<m->c6 rk p k=c6 rk p 0:=λk hk=>by
     have r:=b 0 k (by omega) hk;have c:=b k (m - 1) (by omega) (by omega);omega
    have er:∀k,c6 rk (kas_rev p 0 m) k=c6 rk p k:=λk=>by
     rw[xo (by rw[h.size];omega)];split
     ·rename_i z;rw[G _ (by omega),G k z.2]
     ·rfl
    have hd:xp rk p (m+1):=λi j f hj=>by
     by_cases z:j=m
     ·subst z;by_cases c:i=j
      ·subst c;exact le_refl _
      ·rw[G i (by omega)];rw[G (j - 1) (by omega)]at U;omega
     ·rw[G i (by omega),G j (by omega)];exact le_refl _
    obtain⟨M,O,k1,k2,k3,k4,k5⟩:=yX (vT n) (h.rev 0 m) (m:=m) (by omega) (Co er hd);refine⟨M,O,a.bind ?_,k2,k3,k4,k5⟩;rw[if_neg d,if_pos T];refine .ask (h.lt (by omega)) (h.lt (by omega)) ?_;have:rb rk (p.getD 0 0) (p.getD (m - 1) 0)=false:=Qn hc;rw[this,if_neg uX];exact k1
  ·have q:m=1:=by omega
   subst q;have hd:xp rk p 2:=λi j f hj=>by
    by_cases c:i=j
    ·subst c;exact le_refl _
    ·have:i=0:=by omega
     have:j=1:=by omega
     subst_vars;have:=U;simp at this;omega
   obtain⟨M,O,k1,k2,k3,k4,k5⟩:=yX (vT n) h (m:=1) (by omega) hd;refine⟨M,O,a.bind ?_,k2,k3,k4,k5⟩;rw[if_neg d,if_neg T];exact k1
theorem o0 {p:Array Nat}(h:nY n p){k:Nat}(hk:k<n)(hu:Up rk p k):∀(f l r:Nat),r - l<=f->l<=r->r<=k->(∀i,i<l->c6 rk p i<=c6 rk p k)->(∀i,r<=i->i<k->c6 rk p k<c6 rk p i) ->
  ∃G,Run n (rb rk) (kas_place p k f l r) G/\G<=k/\(∀i,i<G->c6 rk p i<=c6 rk p k)/\(∀i,G<=i->i<k->c6 rk p k<c6 rk p i)
 |0,l,r,hf,hl,d,h1,h2=>⟨l,.ret l,by omega,h1,λi a b=>h2 i (by omega) b⟩
 |f+1,l,r,hf,hl,d,h1,h2=>by
  by_cases M:l ≥ r
  ·refine⟨l,?_,by omega,h1,λi a b=>h2 i (by omega) b⟩;unfold kas_place;rw[if_pos M];exact .ret l
  ·by_cases hc:c6 rk p k<c6 rk p ((l+r) / 2)
   ·obtain⟨G,O,T,U,c⟩:=o0 h hk hu f l ((l+r) / 2) (by omega) (by omega) (by omega) h1 λi a b=>by
     have:=hu ((l+r) / 2) i a b;omega
    refine⟨G,?_,T,U,c⟩;unfold kas_place;rw[if_neg M];refine .ask (h.lt (by omega)) (h.lt (by omega)) ?_;have:rb rk (p.getD k 0) (p.getD ((l+r) / 2) 0)=true:=As hc;rw[this,if_pos rfl];exact O
   ·obtain⟨G,O,T,U,c⟩:=o0 h hk hu f ((l+r) / 2+1) r (by omega) (by omega) d (λi a=>by
     have:=hu i ((l+r) / 2) (by omega) (by omega);omega) h2
    refine⟨G,?_,T,U,c⟩;unfold kas_place;rw[if_neg M];refine .ask (h.lt (by omega)) (h.lt (by omega)) ?_;have:rb rk (p.getD k 0) (p.getD ((l+r) / 2) 0)=false:=Qn hc;rw[this,if_neg uX];exact O
theorem Cp:∀(f:Nat)(p:Array Nat)(k:Nat),nY n p->n - k=f->k<=n->Up rk p k->∃G,Run n (rb rk) (kas_bin f p k) G/\nY n G/\Up rk G n
 |0,p,k,h,hf,hk,hu=>⟨p,.ret p,h,(show k=n by omega) ▸ hu⟩
 |f+1,p,k,h,hf,hk,hu=>by
  have M:k<n:=by omega
  obtain⟨l,d,o,g,m⟩:=o0 h M hu k 0 k (by omega) (by omega) (vT _) (λi z=>by omega) (λi a b=>by omega);have hsz:k<p.size:=by rw[h.size];exact M
  have T:Up rk (bubble p k (k - l)) (k+1):=λi j U hj=>by
   rw[Gd hsz (by omega),Gd hsz (by omega)];have e:k - (k - l)=l:=by omega
   rw[e];by_cases i1:i=l
   ·rw[if_pos i1];by_cases O:j=l
    ·rw[if_pos O];exact le_refl _
    ·rw[if_neg O,if_pos (by omega)];have:=m (j - 1) (by omega) (by omega);omega
   ·rw[if_neg i1];by_cases i2:l<i/\i<=k
    ·rw[if_pos i2,if_neg (by omega),if_pos (by omega)];exact hu _ _ (by omega) (by omega)
    ·rw[if_neg i2];by_cases O:j=l
     ·rw[if_pos O];exact g i (by omega)
     ·rw[if_neg O];by_cases c:l<j/\j<=k
      ·rw[if_pos c];exact hu _ _ (by omega) (by omega)
      ·rw[if_neg c];exact hu _ _ U (by omega)
  obtain⟨G,k1,k2,k3⟩:=Cp f (bubble p k (k - l)) (k+1) (h.bub _ _) (by omega) (by omega) T;exact⟨G,d.bind k1,k2,k3⟩
def yY (hn:1<=n):∃p,Run n (rb rk) (kas_sort n) p/\nY n p/\Up rk p n:=by
 have h0:nY n (List.toArray (List.range n)):=⟨by simp,by simp⟩;obtain⟨m,p,M,O,a,b,T⟩:=DV (rk:=rk) h0 hn;by_cases e:m<n
 ·have G:max m 1=m:=by omega
  obtain⟨U,k1,k2,k3⟩:=Cp (n - max m 1) p (max m 1) O rfl (by omega) (by rw[G];exact T);exact⟨U,M.bind (by dsimp only;rw[if_pos e];exact k1),k2,k3⟩
 ·have:m=n:=by omega
  subst this;exact⟨p,M.bind (by dsimp only;rw[if_neg e];exact .ret _),O,T⟩
end
def l7 {a b c:LI}(h:a<b)(k:b<c):a<c:=lt_trans h k
def DW {a b c:LI}(h:¬b<a)(k:¬c<b):¬c<a:=not_lt.mpr (le_trans (not_lt.mp h) (not_lt.mp k))
def Ge {a b:LI}(h:¬b<a)(k:¬a<b):a=b:=le_antisymm (not_lt.mp h) (not_lt.mp k)
section
variable {α:Type}(f:α->LI)
def Gf (a b:α):Prop:=¬f b<f a
noncomputable def o5 (x:α):List α->List α
 |[]=>[x]
 |y::r=>if f y<f x then y::o5 x r else x::y::r
noncomputable def dO (l:List α):List α:=l.foldr (o5 f) []
theorem o6 (x:α):∀l,(o5 f x l).Perm (x::l)
 |[]=>List.Perm.refl _
 |y::r=>by
  unfold o5;split
  ·exact((o6 x r).cons y).trans (List.Perm.swap x y r)
  ·exact List.Perm.refl _
theorem aZ:∀l,(dO f l).Perm l
 |[]=>List.Perm.refl _
 |x::l=>(o6 f x (dO f l)).trans ((aZ l).cons x)
theorem uH (x:α):∀l,l.Pairwise (Gf f)->(o5 f x l).Pairwise (Gf f)
 |[],_=>by simp[o5]
 |y::r,h=>by
  obtain⟨h1,h2⟩:=pairwise_cons.mp h;unfold o5;split
  ·rename_i hl;refine pairwise_cons.mpr ⟨λz hz=>?_,uH x r h2⟩;rcases vP ((o6 f x r).mem_iff.mp hz)with rfl|hz
   ·exact λk=>lt_irrefl _ (l7 hl k)
   ·exact h1 z hz
  ·rename_i hl;refine pairwise_cons.mpr ⟨λz hz=>?_,h⟩;rcases vP hz with rfl|hz
   ·exact hl
   ·exact DW hl (h1 z hz)
theorem ee:∀l,(dO f l).Pairwise (Gf f)
 |[]=>List.Pairwise.nil
 |x::l=>uH f x _ (ee l)
theorem o7:∀(l1 l2:List α),(∀x∈l1,∀y∈l1,f x=f y->x=y)->l1.Perm l2->l1.Pairwise (Gf f)->l2.Pairwise (Gf f)->l1=l2
 |[],l2,_,p,_,_=>(nil_perm.mp p).symm
 |x::G,[],_,p,_,_=>absurd p.length_eq (by simp)
 |x::G,y::T,hi,p,h1,h2=>by
  have hy:y∈x::G:=p.mem_iff.mpr (mX ..);have M:Gf f x y:=by
   rcases vP hy with z|z
   ·rw[z];exact lt_irrefl _
   ·exact(pairwise_cons.mp h1).1 y z
  have O:Gf f y x:=by
   rcases vP (p.mem_iff.mp (mX ..))with z|z
   ·rw[z];exact lt_irrefl _
   ·exact(pairwise_cons.mp h2).1 x z
  have e:x=y:=hi x (mX ..) y hy (Ge M O);subst e;rw[o7 G T (λa ha b hb=>hi a (mZ _ ha) b (mZ _ hb)) (List.Perm.cons_inv p) (pairwise_cons.mp h1).2 (pairwise_cons.mp h2).2]
theorem jx (hi:∀x∈l,∀y∈l,f x=f y->x=y)(p:G.Perm l)(h:G.Pairwise (Gf f)):G=dO f l :=
 o7 f _ _ (λx hx y hy=>hi x (p.mem_iff.mp hx) y (p.mem_iff.mp hy)) (p.trans (aZ f l).symm) h (ee f l)
end
theorem mn {α:Type}{p q:α->Bool}(h:∀x,p x=true->q x=true):∀l:List α,(l.filter p).length<=(l.filter q).length
 |[]=>vT _
 |x::l=>by
  have G:=mn h l;rw[filter_cons,filter_cons];by_cases z:p x=true
  ·rw[if_pos z,if_pos (h x z)];simp only[vE];omega
  ·rw[if_neg z];split
   ·simp only[vE];omega
   ·exact G
noncomputable def nc (cs:List LI)(c:LI):Int:=((cs.filter λx=>decide (x<c)).length:Nat)
def Js {cs:List LI}{a b:LI}(h:¬b<a):nc cs a<=nc cs b:=by
 unfold nc;refine Int.ofNat_le.mpr (mn (λx hx=>?_) cs);rw[decide_eq_true_eq]at hx |-;rcases List.le_iff_lt_or_eq.mp (not_lt.mp h)with z|z
 ·exact l7 hx z
 ·rw[<-z];exact hx
def xr {cs:List LI}{a b:LI}(ha:a∈cs)(h:a<b):nc cs a<nc cs b:=by
 unfold nc;apply Int.ofNat_lt.mpr;induction cs with
 |nil=>simp at ha
 |cons c cs M=>
  have G:∀l:List LI,(l.filter λx=>decide (x<a)).length<=(l.filter λx=>decide (x<b)).length:=λl=>
   mn (λx hx=>by rw[decide_eq_true_eq]at hx |-;exact l7 hx h) l
  rw[filter_cons,filter_cons];rcases vP ha with rfl|ha
  ·rw[if_neg (by simp[lt_irrefl]),if_pos (by simpa using h)];have:=G cs;simp only[vE];omega
  ·have:=M ha;by_cases z:c<a
   ·rw[if_pos (by simpa using z),if_pos (by simpa using l7 z h)];simp only[vE];omega
   ·rw[if_neg (by simpa using z)];split
    ·simp only[vE];omega
    ·exact this
def yZ (ha:a∈cs):decide (nc cs a<nc cs b)=decide (a<b):=by
 by_cases h:a<b
 ·rw[As h,As (xr ha h)]
 ·rw[Qn h,Qn];have:=Js (cs:=cs) h;omega
inductive At where
 |i (n:Int)
 |s (z:Str)
noncomputable def MU:At->LI
 |.i n=>[n]
 |.s z=>z.cps.toList.map (λ(c:Nat)=>(c:Int)+1)++[0]
noncomputable def c8 (xs:List At):LI:=xs.flatMap MU
noncomputable def bu:List At->List At->Option Bool
 |[],ys=>some (!ys.isEmpty)
 |_::_,[]=>some false
 |.i a::xs,.i b::ys=>if a=b then bu xs ys else some (decide (a<b))
 |.s a::xs,.s b::ys=>if a=b then bu xs ys else some (decide (a.cps.toList<b.cps.toList))
 |_::_,_::_=>none
theorem xu:∀(a b:LN)(r G:LI),(a.map (λ(c:Nat)=>(c:Int)+1)++0::r)<(b.map (λ(c:Nat)=>(c:Int)+1)++0::G)↔a<b\/(a=b/\r<G)
 |[],[],r,G=>by simp[cons_lt_cons_iff]
 |[],y::b,r,G=>by simp[cons_lt_cons_iff]
 |x::a,[],r,G=>by simp[cons_lt_cons_iff];omega
 |x::a,y::b,r,G=>by
  rw[uY,uY,cons_append,cons_append,cons_lt_cons_iff,xu a b r G,cons_lt_cons_iff];constructor
  ·rintro (h|⟨h,k|⟨k1,k2⟩⟩)
   ·exact .inl (.inl (by omega))
   ·exact .inl (.inr ⟨by omega,k⟩)
   ·exact .inr ⟨by rw[k1,show x=y by omega],k2⟩
  ·rintro ((h|⟨h,k⟩)|⟨h,k⟩)
   ·exact .inl (by omega)
   ·exact .inr ⟨by omega,.inl k⟩
   ·injection h with h1 h2;exact .inr ⟨by omega,.inr ⟨h2,k⟩⟩
def jy (x:At)(xs:List At):c8 (x::xs)=MU x++c8 xs:=by unfold c8;rw[List.flatMap_cons]
def MV (x:At):MU x≠[]:=by cases x<;>simp[MU]
def Cq {a b:Str}:a.cps.toList=b.cps.toList↔a=b:=by
 constructor
 ·intro h;obtain⟨a⟩:=a;obtain⟨b⟩:=b;have:a=b:=toList_inj.mp h;rw[this]
 ·rintro rfl;rfl
theorem qi:∀(xs ys:List At)(b:Bool),bu xs ys=some b->b=decide (c8 xs<c8 ys)
 |[],[],b,h=>by simp[bu]at h;subst h;simp[c8]
 |[],y::ys,b,h=>by
  simp[bu]at h;subst h;rw[jy];cases e:MU y with
  |nil=>exact absurd e (MV y)
  |cons c cs=>simp[c8]
 |x::xs,[],b,h=>by simp[bu]at h;subst h;simp[c8]
 |.i a::xs,.i c::ys,b,h=>by
  rw[bu]at h;rw[jy,jy];show b=decide (a::c8 xs<c::c8 ys);split at h
  ·rename_i e;subst e;rw[qi xs ys b h];exact decide_eq_decide.mpr (by rw[cons_lt_cons_iff];simp)
  ·rename_i e;cases h
   exact decide_eq_decide.mpr (by rw[cons_lt_cons_iff];simp[e])
 |.s a::xs,.s c::ys,b,h=>by
  rw[bu]at h;rw[jy,jy];have G:∀(z:Str)(r:LI),MU (.s z)++r=z.cps.toList.map (λ(c:Nat)=>(c:Int)+1)++0::r:=λz r=>by simp[MU]
  rw[G,G];split at h
  ·rename_i e;subst e;rw[qi xs ys b h];exact decide_eq_decide.mpr (by rw[xu];exact⟨λz=>.inr ⟨rfl,z⟩,λz=>z.elim (λq=>absurd q (lt_irrefl _)) (·.2)⟩)
  ·rename_i e;cases h
   exact decide_eq_decide.mpr (by rw[xu,Cq];exact⟨.inl,λz=>z.elim id λq=>absurd q.1 e⟩)
 |.i _::_,.s _::_,b,h=>by simp[bu]at h
 |.s _::_,.i _::_,b,h=>by simp[bu]at h
theorem AU:∀(xs ys:List At),bu xs ys=some false->bu ys xs=some false->xs=ys
 |[],[],_,_=>rfl
 |[],y::ys,h,_=>by simp[bu]at h
 |x::xs,[],_,h=>by simp[bu]at h
 |.i a::xs,.i c::ys,h,k=>by
  rw[bu]at h k;by_cases e:a=c
  ·subst e;rw[if_pos rfl]at h k;rw[AU xs ys h k]
  ·rw[if_neg e]at h;rw[if_neg (Ne.symm e)]at k;simp at h k;omega
 |.s a::xs,.s c::ys,h,k=>by
  rw[bu]at h k;by_cases e:a=c
  ·subst e;rw[if_pos rfl]at h k;rw[AU xs ys h k]
  ·rw[if_neg e]at h;rw[if_neg (Ne.symm e)]at k;simp only[Option.some.injEq,decide_eq_false_iff_not]at h k;exact absurd (Cq.mp (le_antisymm (not_lt.mp k) (not_lt.mp h))) e
 |.i _::_,.s _::_,h,_=>by simp[bu]at h
 |.s _::_,.i _::_,h,_=>by simp[bu]at h
noncomputable def dn (ks:List (List At)):Bool:=ks.all λx=>ks.all λy=>(bu x y).isSome
def ig (h:dn ks=true)(hx:x∈ks)(hy:y∈ks):bu x y=some (decide (c8 x<c8 y)):=by
 have:=uR (uR h x hx) y hy;obtain⟨b,e⟩:=uU this;rw[e,qi _ _ _ e]
def l8 (h:dn ks=true)(hx:x∈ks)(hy:y∈ks)(e:c8 x=c8 y):x=y:=by
 refine AU _ _ ?_ ?_
 ·rw[ig h hx hy,e,Qn (lt_irrefl _)]
 ·rw[ig h hy hx,e,Qn (lt_irrefl _)]
def Av:At->Value->Prop
 |.i n,v=>∃t,v=.int n t
 |.s z,v=>∃t,v=.str z t
def fM (h:Heap)(xs:List At)(v:Value):Prop:=∃a o its n,v=.ref a/\h.get? a=some o/\o.cls=.type "tuple"/\o.data=.seq its n/\Paired Av xs its.toList
def fM.keep (x:fM h xs v)(k:∀a o,o.cls=.type "tuple"->h.get? a=some o->h'.get? a=some o):fM h' xs v:=by
 obtain⟨a,o,its,n,e,G,hc,r⟩:=x;exact⟨a,o,its,n,e,k a o hc G,hc,r⟩
noncomputable def dG (ks:List (List At)):Bool:=ks.all (λx=>match x with|.i _::_=>true|_=>false) || ks.all (λx=>match x with|.s _::_=>true|_=>false)
section
variable {prog:Program}{w:World}{A:Around}{E:QV}{s:Shared}
def Gg (xs ys:List At)(its G:LU)(i:Nat)(O:Paired Av xs its)(T:Paired Av ys G)(h:bu xs ys=some b)(hf:iO=decide (xs.length<ys.length))(q:Q b s):KatLex prog w A true iO Q (its.zip G) i s:=by
 induction O generalizing ys G i with
 |nil=>
  rw[List.zip_nil_left];refine kat_nil ?_;cases ys with
  |nil=>simp[bu]at h;subst h;rw[hf];exact q
  |cons y ys=>simp[bu]at h;subst h;rw[hf];simpa using q
 |@cons x v xs its O d U=>
  cases T with
  |nil=>
   rw[List.zip_nil_right];refine kat_nil ?_;simp[bu]at h;subst h;rw[hf];simpa using q
  |@cons y u ys G T M=>
   cases x with
   |i a=>
    cases y with
    |s _=>simp[bu]at h
    |i c=>
     obtain⟨t,rfl⟩:=O;obtain⟨u,rfl⟩:=T;rw[zip_cons_cons];refine kat_cons (wpAny_eqBool_int ?_);rw[bu]at h;by_cases e:a=c
     ·rw[if_pos e]at h;rw[show(a == c)=true by simp[e]];exact kat_yes (U ys G (i+1) M h (by rw[hf];simp))
     ·rw[if_neg e]at h;cases h
      rw[show(a == c)=false by simp[e]];refine kat_no ?_;cases hb:(true && i == 0) with
      |true=>exact oneLt_int q
      |false=>exact kat_one _ _ (PyProof.Rows.lt_int q)
   |s a=>
    cases y with
    |i _=>simp[bu]at h
    |s c=>
     obtain⟨t,rfl⟩:=O;obtain⟨u,rfl⟩:=T;rw[zip_cons_cons];refine kat_cons (wpAny_eqBool_str ?_);rw[bu]at h;by_cases e:a=c
     ·rw[if_pos e]at h;rw[As e];exact kat_yes (U ys G (i+1) M h (by rw[hf];simp))
     ·rw[if_neg e]at h;cases h
      rw[Qn e];refine kat_no ?_;cases hb:(true && i == 0) with
      |true=>exact oneLt_str q
      |false=>exact kat_one _ _ (PySem.P.lt_str q)
theorem fD {α O:Type}{F:α->O->Prop}:∀ {G:List α}{M:List O},Paired F G M->G.length=M.length
 |_,_,.nil=>rfl
 |_,_,.cons _ t=>by simp[fD t]
def MW {Q:Bool->Shared->Prop}{xs ys:List At}{x y:Value}{b:Bool}(hx:fM s.heap xs x)(hy:fM s.heap ys y)(h:bu xs ys=some b)(q:Q b s):wpAny (model prog w) A (keyLt' (tuples' true) x y) Q E s:=by
 obtain⟨a,o,its,n,rfl,T,_,hd,r⟩:=hx;obtain⟨U,o',its',c,rfl,G,_,M,O⟩:=hy;refine kat_lt T hd G M (Gg xs ys _ _ 0 r O h ?_ q);rw[<-vG,<-vG,fD r,fD O]
theorem px:∀ {ks:List (List At)}{vs:LU},Paired (fM h) ks vs->(∀k∈ks,k≠[])->∃fs,KatTups h vs fs/\fs.length=ks.length/\∀v∈fs,∃k r,(k::r)∈ks/\Av k v
 |_,_,.nil,_=>⟨[],trivial,rfl,by simp⟩
 |k::ks,_,.cons x t,G=>by
  obtain⟨fs,h1,h2,h3⟩:=px t λz hz=>G z (mZ _ hz);obtain⟨a,o,its,n,rfl,T,hc,hd,r⟩:=x;cases M:its.toList with
  |nil=>
   rw[M]at r;cases r
   exact absurd rfl (G [] (mX ..))
  |cons v vs=>
   rw[M]at r;obtain⟨p,O⟩:∃p,its[0]? = some v:=⟨(),by rw[<-getElem?_toList,M];rfl⟩;cases r with
   |cons q b=>
    rename_i k0 U;refine⟨v::fs,KatTups.cons T hc hd O h1,by simp[h2],λu hu=>?_⟩;rcases vP hu with rfl|hu
    ·exact⟨k0,U,mX ..,q⟩
    ·obtain⟨k1,O,m1,m2⟩:=h3 u hu;exact⟨k1,O,mZ _ m1,m2⟩
def za (hp:Paired (fM s.heap) ks vs)(hf:dG ks=true)(hn:0<ks.length)(q:Q (tuples' true) s):wpAny (model prog w) A (keyKind' vs.toArray) Q E s:=by
 have G:∀k∈ks,k≠[]:=λk hk z=>by
  subst z;unfold dG at hf;rw[or_eq_true]at hf;rcases hf with hf|hf
  ·have:=uR hf [] hk;simp at this
  ·have:=uR hf [] hk;simp at this
 obtain⟨fs,h1,h2,h3⟩:=px hp G;unfold dG at hf;rw[or_eq_true]at hf;rcases hf with hf|hf
 ·refine kat_kind (T:=.type "int") h1 (by omega) (λv hv=>?_) (by decide) q;obtain⟨k,r,m,z⟩:=h3 v hv;have:=uR hf _ m;cases k with
  |i n=>obtain⟨t,rfl⟩:=z;exact .now
  |s M=>simp at this
 ·refine kat_kind (T:=.type "str") h1 (by omega) (λv hv=>?_) (by decide) q;obtain⟨k,r,m,z⟩:=h3 v hv;have:=uR hf _ m;cases k with
  |s M=>obtain⟨t,rfl⟩:=z;exact .now
  |i n=>simp at this
end
section
variable {prog:Program}{w:World}{A:Around}{E:QV}{s:Shared}
theorem fE {α O:Type}{F:α->O->Prop}(d:α)(e:O):∀ {G:List α}{M:List O},Paired F G M->∀ {i:Nat},i<G.length->F (G.getD i d) (M.getD i e)
 |_,_,.cons r t,0,_=>r
 |_,_,.cons r t,i+1,h=>by
  simp only[getD_cons_succ];exact fE d e t (by simpa using h)
 |_,_,.nil,i,h=>by simp at h
def Aw (ks:List (List At))(i:Nat):Int:=nc (ks.map c8) (c8 (ks.getD i []))
def Cr {ks:List (List At)}{vs:LU}(hc:dn ks=true)(hp:Paired (fM s.heap) ks vs):∀(i j:Nat)(C:Bool->Shared->Prop)(s1:Shared),i<ks.length->j<ks.length->s1=s->(∀s',s'=s->C (rb (Aw ks) i j) s')->kas_ask prog w A (tuples' true) vs i j C s1:=by
 intro i j C s1 hi hj e M;subst e;unfold kas_ask;have G:ks.getD i []∈ks:=by rw[vF,vU hi];exact getElem_mem hi
 have O:ks.getD j []∈ks:=by rw[vF,vU hj];exact getElem_mem hj
 refine MW (fE [] Value.none hp hi) (fE [] Value.none hp hj) (ig hc G O) ?_;have:=M s1 rfl;unfold rb Aw at this;rw[yZ (uS ⟨_,G,rfl⟩)]at this;exact this
def DX (c:s.heap.get? a=some (seqObj "list" vs.toArray n))(hk:Paired (fM s.heap) ks vs)(hc:dn ks=true)(hf:dG ks=true)(B:vs.length<64)
  (h:∀p:Array Nat,nY vs.length p->Up (Aw ks) p vs.length->P (.done (.ret .none)) { s with heap:=sortedHeap s.heap a vs (List.toArray (p.toList.map λi=>vs.getD i Value.none)) }):
  wpAny (model prog w) A (Builtin.«list.sort» ⟨[.ref a],[]⟩) P E s:=by
 have ha:=vX c;have Y:ks.length=vs.length:=fD hk;obtain⟨d,g⟩:∃d,(s.heap.update a (Obj.mapSeq λ_=>#[])).get? a=some (seqObj "list" #[] d):=⟨_,get?_update_seq c (λ_=>#[])⟩;let M:Heap:=((s.heap.update a (Obj.mapSeq λ_=>#[])).push (seqObj "tuple" vs.toArray 0)).push (seqObj "list" #[] 0);have D:∀b u,b≠a->s.heap.get? b=some u->M.get? b=some u:=λb u hb q=>
  vZ _ (vZ _ ((Heap.get?_update_ne _ _ _ _ hb).trans q))
 have l:M.get? a=some (seqObj "list" #[] d):=vZ _ (vZ _ g);have m:Paired (fM M) ks vs:=L2.Paired.mapP hk λk v x=>x.keep λb u F q=>D b u (λz=>by
  subst z;rw[c]at q;cases q;injection F with z;exact absurd z (by decide)) q
 rw[list_sort_plain];refine wX (listItems_at c rfl (wX (listUpdate_at c rfl (wX (seqEpoch_at g rfl (wX (wpAny_newTuple (wX (wpAny_newList (wpAny_holding ?_))) (by show vs.length<=sizeLine;rw[sizeLine_eq];omega))))))));show wpAny (model prog w) A _ P E { s with heap:=M };dsimp only;have U:∀(st:SortSt)(p:Array Nat),arrOf st=p.map (kas_item (vs.toArray.zip vs.toArray))->failedOf st=none->nY vs.length p->Up (Aw ks) p vs.length ->
   wpAny (model prog w) A (do
    let O:=(<-seqEpoch a) != d
    Builtin.List.listUpdate (.ref a) λ_=>(arrOf st).map (·.2)
    if let some e:=failedOf st then rule "list.sort.comparison-raised";throw e
    if O then rule "list.sort.modified";raiseError "ValueError" "list modified during sort"
    ret .none) P E { s with heap:=M }:=λst p H I o J=>by
  have t:(arrOf st).map (·.2)=List.toArray (p.toList.map λi=>vs.getD i Value.none):=kat_snds rfl H;refine wX (seqEpoch_at l rfl ?_);refine wX (listUpdate_at l rfl ?_ (hsz2:=by rw[t];simp only[vH,vI,vG,o.size,sizeLine_eq];omega));rw[I];simp only[bne_self_eq_false,uV,if_false];rw[t];exact wY (h p o J)
 by_cases h2:vs.toArray.size<2
 ·rw[if_pos h2,if_pos h2];refine wX (wY ?_);rw[StateT.run_pure];refine wX (wY ?_);have Z:vs.length<2:=by simpa using h2
  refine U _ (List.toArray (List.range vs.length)) ?_ rfl ⟨by simp,by simp⟩ ?_
  ·show vs.toArray.zip vs.toArray=_;have:=kas_range (vs.toArray.zip vs.toArray);rw[show(vs.toArray.zip vs.toArray).size=vs.length by simp]at this;exact this.symm
  ·intro i j K hj;have:i=j:=by omega
   subst this;exact le_refl _
 ·rw[if_neg h2,if_neg h2];have L:2<=vs.length:=by simp at h2;omega
  refine wX (za (s:={ s with heap:=M }) m hf (by omega) ?_);obtain⟨p,N,R,S⟩:=yY (n:=vs.length) (rk:=Aw ks) (by omega);refine wX (wpAny_mono (kat_run (E:=E) (ks:=vs) (vs:=vs) (κ:=tuples' true) (s:={ s with heap:=M }) (Q:=λT s'=>s'={ s with heap:=M }/\arrOf T=p.map (kas_item (vs.toArray.zip vs.toArray))/\failedOf T=none)
   (G:=λy s'=>y=p/\s'={ s with heap:=M }) rfl L B (λy T s' _ e2 f V=>by
    obtain⟨rfl,rfl⟩:=V;exact⟨rfl,e2,f⟩) (Run.wp (λs'=>s'={ s with heap:=M }) (λi j C s1 hi hj e W=>Cr (s:={ s with heap:=M }) hc m i j C s1 (by omega) (by omega) e W) N rfl λs' e=>⟨rfl,e⟩)) (λr s' X=>?_) λ_ _ z=>z)
  obtain⟨⟨⟩,T⟩:=r;obtain⟨rfl,e2,f⟩:=X;exact U T p e2 f R S
def zb (hl:s.heap.IsList l vs.toArray)(hk:Paired (fM s.heap) ks vs)(hc:dn ks=true)(hf:dG ks=true)(M:vs.length<64)
  (h:∀p:Array Nat,nY vs.length p->Up (Aw ks) p vs.length->Q (.ref (s.z+1)) { s with heap:=sortedAll s.heap vs (List.toArray (p.toList.map λi=>vs.getD i Value.none)) }):
  wpAny (model prog w) A (call (.builtin "sorted") [.ref l]) Q E s:=by
 let h1:Heap:=(s.heap.push (seqObj "list" #[] 0)).update s.z (Obj.mapSeq (· ++ vs.toArray));have hsz:h1.objs.size=s.z+1:=by show(Heap.update _ _ _).objs.size=_;rw[Heap.size_update,size_push']
 let h2:Heap:=h1.push (seqObj "list" vs.toArray 0);have G:h2.get? (s.z+1)=some (seqObj "list" vs.toArray 0):=by rw[<-hsz];exact vY _ rfl
 have O:Paired (fM h2) ks vs:=L2.Paired.mapP hk λk v x=>x.keep λb u _ q=>
  vZ _ ((Heap.get?_update_ne _ _ _ _ (vS (vX q))).trans (vZ _ q))
 refine Calls.call_function_entry kind_sorted plain_sorted entry_sorted (args_sorted1 _) ?_;unfold Builtin.«sorted»;refine wX (m:=checkCount "sorted" 1 1 _) (wY (wX (collect_list hl (wX (wpAny_newList ?_)))));show wpAny _ _ _ _ _ { s with heap:=h2 };rw[show((s.heap.push (seqObj "list" #[] 0)).update s.z (Obj.mapSeq (· ++ vs.toArray))).objs.size=s.z+1 from hsz];exact wX (wpAny_holding (wpAny_call_entry slot_list_sort ⟨_,G,rfl⟩ entry_list_sort (DX G O hc hf M λp T U=>⟨_,rfl,wY ⟨_,rfl,h p T U⟩⟩) (args_list_sort _)))
end
end DL
namespace DL
open PySem PySem.Spec PySem.W PyProof.Rows L2
noncomputable def uI:D->Option At
 |.int n=>some (.i n)
 |.str z=>some (.s z)
 |_=>none
def fT:LD->Option (List At)
 |[]=>some []
 |d::ds=>(uI d).bind λa=>(fT ds).map (a :: ·)
def ng:D->Option (List At)
 |.tup es=>fT es
 |_=>none
def dH:LD->Option (List (List At))
 |[]=>some []
 |d::ds=>(ng d).bind λa=>(dH ds).map (a :: ·)
def Gh (d:D):LI:=c8 ((ng d).getD [])
noncomputable def jz:LD->Option LI
 |[]=>some []
 |.int n::ds=>(jz ds).map (n :: ·)
 |_::_=>none
def nj (ns:LI):LI:=dO (λn=>[n]) ns
def fU:LD->OB
 |[.lst ds]=>match ju ds with
  |some ss=>if ss.length<64 then some (.lst ((kG ss).map .str),true)else none
  |none=>match jz ds with
   |some ns=>if ns.length<64 then some (.lst ((nj ns).map .int),true)else none
   |none=>match dH ds with
    |some ks=>if ks.length<64/\dn ks=true/\dG ks=true then some (.lst (dO Gh ds),true)else none
    |none=>none
 |_=>none
def DY (h:uI d=some a)(k:uI e=some a):d=e:=by
 cases d<;>simp only[uI]at h<;>cases h<;>cases e<;>simp only[uI]at k<;>cases k<;>rfl
theorem re:∀ {ds es:LD}{G:List At},fT ds=some G->fT es=some G->ds=es
 |[],[],_,_,_=>rfl
 |[],e::es,G,h,k=>by
  simp only[fT]at h k;cases h
  obtain⟨a,_,k⟩:=oX k;obtain⟨r,_,k⟩:=oY k;cases k
 |d::ds,[],G,h,k=>by
  simp only[fT]at h k;cases k
  obtain⟨a,_,h⟩:=oX h;obtain⟨r,_,h⟩:=oY h;cases h
 |d::ds,e::es,G,h,k=>by
  simp only[fT]at h k;obtain⟨a,h1,h⟩:=oX h;obtain⟨r,h2,h⟩:=oY h;obtain⟨T,k1,k⟩:=oX k;obtain⟨U,k2,k⟩:=oY k;subst h;injection k with M O;subst M;subst O;rw[DY h1 k1,re h2 k2]
def Gi (h:ng d=some k)(h':ng e=some k):d=e:=by
 cases d<;>simp only[ng]at h<;>try (cases h;done)
 cases e<;>simp only[ng]at h'<;>try (cases h';done)
 rw[re h h']
theorem gn:∀ {ds:LD}{ks:List (List At)},dH ds=some ks->ks.length=ds.length
 |[],_,h=>by simp only[dH]at h;cases h;rfl
 |d::ds,_,h=>by
  simp only[dH]at h;obtain⟨a,h1,h⟩:=oX h;obtain⟨r,h2,h⟩:=oY h;subst h;simp[gn h2]
theorem j0:∀ {ds:LD}{ks:List (List At)},dH ds=some ks->∀ {i:Nat},i<ds.length->ng (ds.getD i .non)=some (ks.getD i [])
 |[],_,h,i,hi=>by simp at hi
 |d::ds,_,h,0,hi=>by
  simp only[dH]at h;obtain⟨a,h1,h⟩:=oX h;obtain⟨r,h2,h⟩:=oY h;subst h;exact h1
 |d::ds,_,h,i+1,hi=>by
  simp only[dH]at h;obtain⟨a,h1,h⟩:=oX h;obtain⟨r,h2,h⟩:=oY h;subst h;simp only[getD_cons_succ];exact j0 h2 (by simpa using hi)
def rf {α:Type}(l:List α)(d:α):(List.range l.length).map (λi=>l.getD i d)=l:=by
 apply ext_getElem?;intro i;by_cases h:i<l.length
 ·simp[h]
 ·simp[h]
def AW (hk:dH ds=some ks)(hc:dn ks=true)(O:nY ds.length p)(b:Up (Aw ks) p ds.length):p.toList.map (λi=>ds.getD i .non)=dO Gh ds:=by
 have mem:∀x∈ds,∃k∈ks,ng x=some k:=λx hx=>by
  obtain⟨i,hi,rfl⟩:=List.mem_iff_getElem.mp hx;have:=j0 hk hi;rw[vF,vU hi]at this;refine⟨_,?_,this⟩;have G:i<ks.length:=by rw[gn hk];exact hi
  rw[vF,vU G];exact getElem_mem G
 apply jx Gh
 ·intro x hx y hy e;obtain⟨k,mk,ek⟩:=mem x hx;obtain⟨k',T,M⟩:=mem y hy;unfold Gh at e;rw[ek,M]at e;have:=l8 hc mk T e;subst this;exact Gi ek M
 ·have:=O.perm.map (λi=>ds.getD i .non);rw[rf]at this;exact this
 ·rw[List.pairwise_iff_getElem];intro i j hi hj U;have hsz:=O.size;have G:i<p.size:=by simpa using hi
  have c:j<p.size:=by simpa using hj
  have:=b i j (le_of_lt U) (by omega);unfold c6 Aw at this;have d:p.getD i 0=p[i]:=by rw[getD_eq_getD_getElem?,getElem?_eq_getElem G];rfl
  have f:p.getD j 0=p[j]:=by rw[getD_eq_getD_getElem?,getElem?_eq_getElem c];rfl
  have g:=O.lt (k:=i) (by omega);have a:=O.lt (k:=j) (by omega);have h:ks.getD (p.getD j 0) []∈ks:=by
   have h':p.getD j 0<ks.length:=by rw[gn hk];exact a
   rw[vF,vU h'];exact getElem_mem h'
  have l:¬c8 (ks.getD (p.getD j 0) [])<c8 (ks.getD (p.getD i 0) []):=λz=>by
   have:=xr (cs:=ks.map c8) (uS ⟨_,h,rfl⟩) z;omega
  simp only[getElem_map,Array.getElem_toList];unfold Gf Gh;rw[<-d,<-f,j0 hk g,j0 hk a];exact l
section
variable {X:Cx}
theorem zc {K:Frag}{B:Hp}:∀ {vs:LV}{es:LD}{k:List At}{its:LU},bq vs its->IsL K B vs es->fT es=some k->Paired Av k its
 |_,_,_,_,.nil,.nil,h=>by simp only[fT]at h;cases h;exact .nil
 |_,_,_,_,.cons r G,.cons i M,h=>by
  simp only[fT]at h;obtain⟨a,h1,h⟩:=oX h;obtain⟨t,h2,h⟩:=oY h;subst h;refine .cons ?_ (zc G M h2);cases i<;>simp only[uI]at h1<;>cases h1
  ·exact r
  ·exact r
theorem nn {ah:AO}{σ:St}{H:Hp}{s:Shared}(I:Inv X ah σ H s):∀ {ys:LV}{ds:LD}{ks:List (List At)}{its:LU},bq ys its->IsL X.K H ys ds->dH ds=some ks->Paired (fM s.heap) ks its
 |_,_,_,_,.nil,.nil,h=>by simp only[dH]at h;cases h;exact .nil
 |_,_,_,_,.cons r G,.cons i M,h=>by
  simp only[dH]at h;obtain⟨a,h1,h⟩:=oX h;obtain⟨t,h2,h⟩:=oY h;subst h;refine .cons ?_ (nn I G M h2);cases i<;>simp only[ng]at h1<;>try (cases h1;done)
  rename_i hq hl;cases r
  obtain⟨its',O,⟨o,T,hc,n,hd⟩,_⟩:=I.tuple hq;exact⟨_,o,_,n,rfl,T,hc,hd,by simpa using zc O hl h1⟩
theorem Cs {K:Frag}{B:Hp}:∀ {vs:LV}{ds:LD},IsL K B vs ds->∀ {i:Nat},i<ds.length->Is K B (vs.getD i .non) (ds.getD i .non)
 |_,_,.cons h _,0,_=>h
 |_,_,.cons _ t,i+1,hi=>by
  simp only[getD_cons_succ];exact Cs t (by simpa using hi)
 |_,_,.nil,i,hi=>by simp at hi
theorem zd:∀ {vs:LV}{us:LU},bq vs us->∀ {i:Nat},i<vs.length->bf (vs.getD i .non) (us.getD i Value.none)
 |_,_,.cons h _,0,_=>h
 |_,_,.cons _ t,i+1,hi=>by
  simp only[getD_cons_succ];exact zd t (by simpa using hi)
 |_,_,.nil,i,hi=>by simp at hi
theorem rg {K:Frag}{B:Hp}{vs:LV}{ds:LD}(h:IsL K B vs ds):∀(l:LN),(∀i∈l,i<ds.length)->IsL K B (l.map λi=>vs.getD i .non) (l.map λi=>ds.getD i .non)
 |[],_=>.nil
 |i::l,hl=>.cons (Cs h (hl i (mX ..))) (rg h l λj hj=>hl j (mZ _ hj))
theorem o8 (h:bq vs us):∀(l:LN),(∀i∈l,i<vs.length)->bq (l.map λi=>vs.getD i .non) (l.map λi=>us.getD i Value.none)
 |[],_=>.nil
 |i::l,hl=>.cons (zd h (hl i (mX ..))) (o8 h l λj hj=>hl j (mZ _ hj))
end
section
variable {X:Cx}
theorem Ct {K:Frag}{B:Hp}:∀ {vs:LV}{ds:LD}{ns:LI}{its:LU},bq vs its->IsL K B vs ds->jz ds=some ns->IntsAre its ns
 |_,_,_,_,.nil,.nil,h=>by simp only[jz]at h;cases h;exact .nil
 |_,_,_,_,.cons r G,.cons i M,h=>by
  cases i<;>simp only[jz]at h<;>try (cases h;done)
  obtain⟨t,h2,h⟩:=oY h;subst h;obtain⟨u,rfl⟩:=r;exact .cons _ u (Ct G M h2)
theorem uJ:∀ {its:LU}{zs:LS},StrsAre its zs->bq (zs.map V.str) its
 |_,_,.nil=>.nil
 |_,_,.cons x t r=>.cons ⟨t,rfl⟩ (uJ r)
theorem ib:∀ {its:LU}{zs:LI},IntsAre its zs->bq (zs.map V.int) its
 |_,_,.nil=>.nil
 |_,_,.cons x t r=>.cons ⟨t,rfl⟩ (ib r)
theorem no {K:Frag}{N:Hp}:∀(zs:LI),IsL K N (zs.map V.int) (zs.map D.int)
 |[]=>.nil
 |z::zs=>.cons (.int z) (no zs)
def ze (p:G.Perm l)(h:G.Pairwise (·<=·)):G=nj l:=by
 refine jx _ (λx _ y _ e=>by injection e) p (h.imp λ{a b} M=>?_);unfold Gf;intro z;rw[cons_lt_cons_iff]at z;rcases z with z|⟨_,z⟩
 ·omega
 ·exact lt_irrefl _ z
def mo (I:Inv X ah σ H s)(M:aU B H)(q:Fin X.K B H (.lst ds) true Q)(hv:bq ys out.toList)(hl:IsL X.K B ys ds)(hz:ys.length<=sizeLine):
  EP X ah σ Q (.ref (s.z+1)) { s with heap:=sortedAll s.heap its out }:=by
 obtain⟨e,he⟩:=sortedAll_at s.heap its out;have hp:H (s.z+1)=none:=I.hok.fresh (le_succ _);have G:=Ext.laid (o:=.lst ys) M hp;exact⟨.ref _,_,I.laid (t':=s.toks) (λb o=>sortedAll_old) (le_succ _) (show bI X.prog X.w _ _ _ (.lst ys)from ⟨hz,out.toList,e,hv,he⟩),rfl,
  q _ _ _ G (.lst (gN.of aB) (hl.mono G.bn)) λ_=>⟨_,_,_,rfl,rfl,hp,aB,hl.mono G.bn⟩⟩
def Gj:cr X (.builtin "sorted") (BQ X.K fU):=by
 intro ah s σ H xs us Q I r h;obtain⟨B,dl,d,bb,O,i,G,q⟩:=h;cases i with
 |nil=>simp[fU]at G
 |cons i1 i2=>
  cases i2 with
  |cons _ _=>cases i1<;>simp[fU]at G
  |nil=>
   cases i1<;>try (simp[fU]at G;done)
   rename_i v vs ds h hl;obtain⟨u,rfl,m⟩:=iq r;cases m
   obtain⟨its,T,pl,hz⟩:=I.list (O.seq h);have w:vs.length=its.length:=T.length;have n:ds.length=vs.length:=hl.length.symm;simp only[fU]at G;split at G
   ·rename_i ss es;split at G
    ·rename_i U;cases G
     have M:=kE T hl es;have o:its.length=ss.length:=by rw[<-M.strs,vI]
     refine sorted_strs pl.isList (by simpa using M) (by omega) λout b c f g=>?_;have e:=uF f g;subst e;exact mo I O q (uJ c) (mV _) (by rw[vI,(fB ss).length_eq,sizeLine_eq];omega)
    ·cases G
   ·split at G
    ·rename_i ns es;split at G
     ·rename_i U;cases G
      have M:=Ct T hl es;have o:its.length=ns.length:=IntsAre.length M;refine sorted_ints pl.isList (by simpa using M) (by omega) λout b c f g=>?_;have e:=ze f g;subst e;exact mo I O q (ib c) (no _) (by rw[vI];unfold nj;rw[(aZ _ ns).length_eq,sizeLine_eq];omega)
     ·cases G
    ·split at G
     ·rename_i ks es;split at G
      ·rename_i hh;obtain⟨U,hc,hf⟩:=hh;cases G
       have x:=gn es;have M:=nn I T (hl.mono O) es;refine zb pl.isList (by simpa using M) hc hf (by omega) λp a j=>?_;have t:its.length=ds.length:=by omega
       rw[t]at a j;have e:=AW es hc a j;have k:∀i∈p.toList,i<ds.length:=λi hi=>mem_range.mp (a.perm.mem_iff.mp hi);have l:=rg hl p.toList k;rw[e]at l;refine mo I O q (ys:=p.toList.map λi=>vs.getD i .non) ?_ l ?_
       ·simpa using o8 T p.toList λi hi=>by rw[<-n];exact k i hi
       ·rw[vI,vG,a.size,sizeLine_eq];omega
      ·cases G
     ·cases G
end
end DL
namespace DL
open PySem PySem.Spec PyProof.Rows L2
section
variable {X:Cx}{e:Expr}{pos pos2 p p2:Pos}
def tV:cr X (.builtin "len") (λxs H Q=>∃S G,xs=[.ref S]/\H S=some (yU X S G)/\Q (.int (G.length:Nat)) H):=by
 intro ah s σ H xs us Q I r h;obtain⟨S,G,rfl,O,q⟩:=h;obtain⟨u,rfl,T⟩:=iq r;cases T
 have U:iR X.prog X.w s.heap S G:=(I.hok S _ O).1;obtain⟨o,es,b,t,a,M,hd,c,hp,nd,hb,hf,_⟩:=U;have sz:es.size=G.length:=by rw[<-hp.length_eq,vI,vG]
 have d:G.length<4096:=hb;exact PySem.call_len_set a M hd hf (by rw[sz];omega) ⟨.int (G.length:Nat),H,I.tok _,⟨_,by rw[sz]⟩,q⟩
def DZ (hc:X.calm=true)(m1:X.mg "len" = none)(m2:X.mg "set" = none)(he:JE X e f)(g1:Gl X "len":=by rfl)(a:Gl X "set":=by rfl)
  (h1:starEach [e] X.env=(false,eval e X.env)::starEach [] X.env:=by rfl):JE X (.Call (.Name "len" p) [.Call (.Name "set" p2) [e] [] pos2] [] pos) (f1 mU f):=by
 refine PE.to (qB tV g1 m1 eM (eI (oi (pq hc) a m2 Lp (eI he gO h1) (he:=h1)) gO)) λσ H Q q=>?_;obtain⟨B,ρ,d',bb,b,r,G,q⟩:=q;obtain⟨O,ex,G⟩:=oX G;refine⟨B,ρ,O.1,O.2,b,r,ex,λv i N1 M i1 j=>?_⟩;obtain⟨xd,k⟩:=O;cases i1<;>try (simp[mU]at G;done)
 rename_i l vs ds h hl;simp only[mU]at G;obtain⟨ss,c,G⟩:=oX G;split at G
 ·rename_i T;cases G
  refine⟨_,_,ss,rfl,M.nh.seq h,λits d=>kE d hl c,T,λS g=>⟨S,_,rfl,aB,?_⟩⟩;have U:=Ext.laid (o:=yU X S (gG ss)) M.nh g;exact(q.into (M.trans U)).one (M.trans U).nh (.int _)
 ·cases G
end
section
variable {X:Cx}{pos:Pos}
theorem rh:∀ {ns:LI}{its:LU},bq (ns.map V.int) its->IntsAre its ns
 |[],_,.nil=>.nil
 |n::ns,_,.cons ⟨t,e⟩ r=>by subst e;exact .cons n t (rh r)
noncomputable def Px (n:Int):Value->Bool
 |.int m _=>m == n
 |_=>false
theorem Gk {K:Frag}{B:Hp}:∀ {vs:LV}{ds:LD}{ns:LI},IsL K B vs ds->jz ds=some ns->vs=ns.map V.int
 |_,_,_,.nil,h=>by simp only[jz]at h;cases h;rfl
 |_,_,_,.cons i G,h=>by
  cases i<;>simp only[jz]at h<;>try (cases h;done)
  obtain⟨t,h2,h⟩:=oY h;subst h;rw[Gk G h2];rfl
end
section
variable {X:Cx}{a:Expr}{pos:Pos}{x:Str}{p:Pos}{d:Addr}{aK:List (Str×D)}
def Ea (cd:mS X.K X.w.params d aK):dI X (compareOp .NotIn) (λx y H Q=>∃z,x=.str z/\y=.ref d/\Q (.bl (!(aK.lookup z).isSome)) H):=by
 rintro ah s σ H _ _ v u Q I M O ⟨z,rfl,rfl,q⟩;cases O
 obtain⟨t,rfl⟩:=M;obtain⟨f,T,U,hf⟩:=cd.map I;refine wpAny_notIn_of (strKind_is X.prog X.w z t) U T ⟨.bl (!(aK.lookup z).isSome),H,I.tok _,?_,q⟩;have:=hf z;cases G:aK.lookup z with
 |none=>rw[G]at this;dsimp only at this;rw[this];rfl
 |some dd=>rw[G]at this;obtain⟨_,_,b,_⟩:=this;rw[b];rfl
def Eb (h:∃d,X.mg x=some (.ref d)/\mS X.K X.w.params d aK)(ha:JE X a f)(U:Gl X x:=by rfl)(hd:(x == ("__debug__" : Str))=false:=by decide)(hm:behindInMarks .NotIn (.Name x p)=false:=by rfl):JT X (.Compare a [.NotIn] [.Name x p] pos) (aV (f1 (qQ aK) f)):=by
 obtain⟨d,M,cd⟩:=h;refine PT.to (BH (Ea cd) ha (qd (v:=.ref d) U M rfl hd) hm) λσ H Q q=>?_;obtain⟨B,ρ,d',bb,b,r,G,q⟩:=wP q;obtain⟨O,ex,G⟩:=oX G;refine⟨B,ρ,O.1,O.2,b,r,ex,λv c N1 T i1 e=>?_⟩;obtain⟨xd,g⟩:=O;cases i1<;>try (simp[qQ]at G;done)
 rename_i z;simp only[qQ]at G;cases G
 exact⟨z,rfl,rfl,(q.into T).one T.nh (.bl _)⟩
end
section
variable {prog:Program}{w:World}{A:Around}{E:QV}{s:Shared}
def AX {a:Addr}{o:Obj}{its:AV}{n:Nat}{x:Value}{e:Value->Bool}{j:Nat}{P:PySem.Fin->Shared->Prop}(U:s.heap.get? a=some o)(hd:o.data=.seq its n)
  (he:∀y∈its,MeetsSeq.EqGives y x (e y)) (hj:j<its.size) (tH:e its[j]=true) (M:∀m (hm:m<its.size),m<j->e its[m]=false)
  (h:P (.done (.ret (.int j s.toks))) { s with toks:=s.toks+1 }):wpAny (model prog w) A (Builtin.«tuple.index» ⟨[.ref a,x],[]⟩) P E s:=by
 show wpAny _ _ (Builtin.Tuple.tupleItemsOf (.ref a)>>=_) _ _ s;refine wX (wpAny_tupleItemsOf U hd ?_);dsimp only;refine wX (wY (wX (wY (wX ?_))));rw[Std.Legacy.Range.forIn_eq_forIn_range'];refine wpAny_forIn_list _
  (λax r s'=>r.1=none/\s'=s/\∃i,i<=j/\ax=List.range' i (its.size - i))
  _ ?_ ?_ _ _ ⟨rfl,rfl,0,uN _,?_⟩
 ·rintro k ax r s' ⟨b,rfl,i,hi,hz⟩;have G:i<its.size:=by omega
  obtain⟨m,hm⟩:∃m,its.size - i=m+1:=⟨its.size - i - 1,by omega⟩;rw[hm,List.range'_succ]at hz;injection hz with O c;have O:=O.symm;subst O;subst c;have d:its[i]? = some its[i]:=by simp[G]
  simp only[d];refine wX (he _ (Array.getElem_mem G) prog w _ _ _ _ ?_);by_cases T:i=j
  ·subst T;rw[tH];simp only[if_true];refine wX ?_;show wpAny _ _ (mkInt (i:Int)>>=λv=>ret v) _ _ _;exact wX (wpAny_mkInt (wY (wY (wY h))))
  ·rw[M i G (by omega)];simp only[uV,if_false];exact wY ⟨rfl,rfl,i+1,by omega,by rw[show its.size - (i+1)=m by omega]⟩
 ·rintro⟨f,g⟩ s' ⟨b,rfl,i,hi,hz⟩;exfalso;have:(List.range' i (its.size - i)).length=0:=by rw[<-hz];rfl
  rw[List.length_range']at this;omega
 ·simp
end
theorem CRows.findT {K:Frag}{P:Params}(y:Str){ds:LD}:∀ {es:List DictEntry}{aK:List (Str×D)},CRows K P es aK->aK.lookup y=some (.tup ds) ->
  ∃e a its n lI,es.find? (λe=>Value.isStrOf y e.key)=some e/\e.val=.ref a/\K.lookup a=some ⟨.type "tuple",none,.seq its n,lI⟩/\jI its.toList ds=true
 |_,_,.nil,h=>by simp at h
 |_,_,.tup (x:=x) (t:=t) (a:=a) (ds:=O) hh l f tl,h=>by
  by_cases e:y=x
  ·subst e;rw[lookup_cons_self]at h;cases h
   rw[vC]at f;exact⟨_,a,_,_,_,List.find?_cons_of_pos (by simp[Value.isStrOf]),rfl,l,f.2⟩
  ·rw[lookup_cons,beq_eq_false_iff_ne.mpr e]at h;have G:Value.isStrOf y (Value.str x t)=false:=by
    rw[eq_false_iff];intro z;obtain⟨t',q⟩:=Value.isStrOf_shape z;injection q with M;exact e M.symm
   simp only[find?_cons,G];exact tl.findT y h
 |_,_,.flat (x:=x) (t:=t) (u:=u) (d:=d) hh f tl,h=>by
  by_cases e:y=x
  ·subst e;rw[lookup_cons_self]at h;cases h
   cases u<;>simp[xf]at f
  ·rw[lookup_cons,beq_eq_false_iff_ne.mpr e]at h;have G:Value.isStrOf y (Value.str x t)=false:=by
    rw[eq_false_iff];intro z;obtain⟨t',q⟩:=Value.isStrOf_shape z;injection q with M;exact e M.symm
   simp only[find?_cons,G];exact tl.findT y h
section
variable {X:Cx}{b e:Expr}{pos:Pos}{x:Str}{p:Pos}
def Sc (K:Frag):V->LV->Hp->VK->Prop:=λx xs H Q=>∃(a:Addr)(o:Obj)(its:AV)(n:Nat)(zs:LS)(y:Str),x=.ref a/\xs=[.str y]/\K.lookup a=some o/\o.cls=.type "tuple"/\o.data=.seq its n/\StrsAre its.toList zs/\zs.findIdx (· == y)<zs.length/\Q (.int (zs.findIdx (· == y):Nat)) H
noncomputable def Lq (y:Str):Value->Bool
 |.str z _=>z == y
 |_=>false
theorem Cu:∀ {its:LU}{zs:LS},StrsAre its zs->∀(i:Nat)(hi:i<its.length),∃(h:i<zs.length)(t:Tok),its[i]=.str zs[i] t
 |_,_,.cons z t h,0,_=>⟨by simp,t,rfl⟩
 |_,_,.cons z t h,i+1,hi=>by
  obtain⟨h',t',e⟩:=Cu h i (by simpa using hi);exact⟨by simpa using h',t',by simpa using e⟩
 |_,_,.nil,i,hi=>by simp at hi
theorem zf:∀ {its:LU}{zs:LS},StrsAre its zs->its.length=zs.length
 |_,_,.nil=>rfl
 |_,_,.cons _ _ h=>by rw[vE,vE,zf h]
def Gm:Mu X "tuple.index" (Sc X.K):=by
 intro ah s σ H x xs v us Q I T U h;obtain⟨a,o,its,n,zs,y,rfl,rfl,c,hc,hd,hz,hk,q⟩:=h;cases T
 obtain⟨u,rfl,⟨t,rfl⟩⟩:=U.one;have O:=I.kIn a o c;have hl:=zf hz;rw[vG]at hl;have at':∀(i:Nat)(hi:i<its.size),∃(h:i<zs.length)(t:Tok),its[i]=.str zs[i] t:=λi hi=>by
  obtain⟨h',t',e⟩:=Cu hz i (by simpa using hi);exact⟨h',t',by simpa using e⟩
 refine wpAny_call_entry PySem.F.slot_tuple_index ⟨o,O,hc⟩ PySem.F.entry_tuple_index (AX (e:=Lq y) (j:=zs.findIdx (· == y)) O hd (λz hm=>?_) (by omega) ?_ (λm hm M=>?_) ⟨_,rfl,.int (zs.findIdx (· == y):Nat),H,I.tok _,⟨_,rfl⟩,q⟩) (PySem.F.args_tuple_index_2 _ _)
 ·obtain⟨i,hi,rfl⟩:=Array.mem_iff_getElem.mp hm;obtain⟨_,t',G⟩:=at' i hi;rw[G];exact eqGives_str _ _ _ _
 ·obtain⟨_,t',G⟩:=at' (zs.findIdx (· == y)) (by omega);rw[G];exact List.findIdx_getElem (p:=(· == y)) (w:=hk)
 ·obtain⟨_,t',G⟩:=at' m hm;rw[G];have:=List.not_of_lt_findIdx (p:=(· == y)) (xs:=zs) M;simpa [Lq]using this
@[simp] def mq (aK:List (Str×D)):D->D->OB
 |.str y,.str z=>match aK.lookup y with
  |some (.tup ds)=>(ju ds).bind λzs=>if zs.findIdx (· == z)<zs.length then some (.int (zs.findIdx (· == z):Nat),false)else none
  |_=>none
 |_,_=>none
def Jt {aK:List (Str×D)}{f g:FE}{dL cB:Pos}(h:∃d,X.mg x=some (.ref d)/\mS X.K X.w.params d aK)(hb:JE X b f)(he:JE X e g)(C:Gl X x:=by rfl)(E:(x == ("__debug__" : Str))=false:=by decide)(hs:mI b:=by intro _ _;rfl)
  (M:attributeBase (.Subscript (.Name x p) b pos) "index" X.env (eval (.Subscript (.Name x p) b pos) X.env)=eval (.Subscript (.Name x p) b pos) X.env:=by rfl)
  (U:((backTo cB (starEach [e] X.env)).all (λx=>!x.1) && (backToKw cB (keywordEach [] X.env)).all (λx=>x.1.isSome)
   && decide ([e].length+([]:List Keyword).length+(if([]:List Keyword).isEmpty then 0 else 1)<30))=true:=by rfl)
  (O:(dL.endLine == cB.line)=true:=by rfl) (o:starEach [e] X.env=[(false,eval e X.env)]:=by rfl):
  JE X (.Call (.Attribute (.Subscript (.Name x p) b pos) "index" dL) [e] [] cB) (f2 (mq aK) f g):=by
 obtain⟨d,hm,cd⟩:=h;have J:Fj X (λx y H Q=>∃z ds,x=.ref d/\y=.str z/\aK.lookup z=some (.tup ds)/\∀a its n lI,X.K.lookup a=some ⟨.type "tuple",none,.seq its n,lI⟩->jI its.toList ds=true->Q (.ref a) H):=by
  intro i j ah s σ H x y v u Q I L N q hs;obtain⟨z,ds,rfl,rfl,k,q⟩:=q;cases L
  obtain⟨t,rfl⟩:=N;obtain⟨es,n,l,r,sm⟩:=cd;have A:=PySem.W.mapOf_K (prog:=X.prog) (w:=X.w) I.kIn l r.lit;obtain⟨en,a,its,n',lI,P,e2,R,S⟩:=r.findT z k;have V:findBy Value.isStrOf es z=some (.ref a):=by
   unfold findBy;obtain⟨es⟩:=es;rw[List.find?_toArray,P,<-e2];rfl
  exact tail_any A.typeIs slot_dict_getitem.lookup (wpAny_getItem_of (strKind_is X.prog X.w z t) A V ⟨.ref a,H,I.tok _,rfl,q a _ _ _ R S⟩) hs
 refine PE.to (BK (T:="tuple") PySem.F.plainAttrs_tuple PySem.F.slot_tuple_index PySem.F.type_tuple_index Gm (Fk J (qd (v:=.ref d) C hm rfl E) hb hs) (eI he gO o) M U O o rfl) λσ H Q q=>?_;obtain⟨B,ρ,d',bb,Y,r,G,q⟩:=q;obtain⟨Z,ex,G⟩:=oX G;obtain⟨y1,ey,G⟩:=oX G;obtain⟨xd,xb⟩:=Z;obtain⟨yd,yb⟩:=y1;cases xd with
 |str z=>
  cases yd with
  |str y=>
   refine⟨B,ρ,_,xb,Y,r,ex,λv H1 N1 m i1 _=>?_⟩;cases i1
   simp only[mq]at G;split at G
   ·rename_i ds k;obtain⟨zs,ez,G⟩:=oX G;split at G
    ·rename_i hk;cases G
     refine⟨z,ds,rfl,rfl,k,λa its n lI l fl=>⟨.inr (.inl ⟨rfl,_,l,rfl,rfl⟩),N1,ρ,_,yb,m.nh,r.mono m.bn,ey,λv2 H2 N2 c i2 _=>?_⟩⟩;cases i2
     obtain⟨vs,rv,iv⟩:=jJ (K:=X.K) fl;exact⟨a,_,its,n,zs,y,rfl,rfl,l,rfl,rfl,kE rv (iv N2) ez,hk,(q.into (m.trans c)).one c.nh (.int _)⟩
    ·cases G
   ·cases G
  |_=>simp[mq]at G
 |_=>simp[mq]at G
end
open PySem.W (tabIn tabObj CodeHd kla_fn kla_obj kla_eval kla_makeFunction kla_makeFunctionHit kla_callFunE kla_codeExpr envX)
def Py (K:Frag)(c P:Addr):Prop:=∃o vs M U G tg T O a,K.lookup c=some o/\o.cls=.type "code"/\o.data=.fields vs/\vs[11]? = some (.ref P)/\vs.getD 11 .none=.ref P/\vs.getD 18 .none=.str M U /\
 vs.getD 7 .none=.int G tg/\vs.getD 9 .none=.bool T/\vs.getD 10 .none=.int O a/\c≠P
def Ec (K:Frag)(x:Str):Prop:=∃c P,tabIn K x=some (c,P)/\Py K c P
def Gn (H:Hp)(f:Addr)(q:Str)(params:Arguments)(G:Expr)(scope:Scope)(cl:List (Str×Addr)):Prop :=
 ∃pm c M u oc O vs t,H f=some (.frz (kla_obj "<lambda>" q params G scope cl pm c M) u)/\H c=some (.frz oc O)/\oc.data=.fields vs/\vs[1]? = some (.str q t)
def Gn.mono (h:Gn H f q params O scope cl)(e:aU H H'):Gn H' f q params O scope cl :=
 let ⟨pm,c,G,u,oc,M,vs,t,h1,h2,h3,h4⟩:=h;⟨pm,c,G,u,oc,M,vs,t,e _ _ h1,e _ _ h2,h3,h4⟩
def lam_mk {K:Frag}{x:Str}{f c P:Addr}{oc:Value}{od h:Option Addr}{lI T:Array (Option Value)}{fd:FuncData}{vs:AV}{M:Str}{a tg b:Tok}{G O:Int}{U:Bool}(i:nsIn K mainGlobals x=some (some (.ref f)))(e2:K.lookup f=some ⟨oc,od,.func fd,lI⟩)
  (j:fd.code=.ref c) (d:K.lookup c=some ⟨.type "code",h,.fields vs,T⟩) (e:vs[11]? = some (.ref P)) (k:vs.getD 11 .none=.ref P) (l:vs.getD 18 .none=.str M a) (m:vs.getD 7 .none=.int G tg) (n:vs.getD 9 .none=.bool U) (o:vs.getD 10 .none=.int O b) (g:(c == P)=false):Ec K x :=
 ⟨c,P,tab_yes i e2 j d e,_,vs,M,a,G,tg,U,O,b,d,rfl,rfl,e,k,l,m,n,o,λz=>by rw[z]at g;simp at g⟩
def AY (l:LU)(h:TriplesOk l)(e:codeAmong T (l++[rawInt a,rawInt b,c])=some U):codeAmong T l=some U\/U=c:=by
 fun_induction TriplesOk l with
 |case1=>
  simp only[List.nil_append,rawInt,codeAmong]at e;split at e
  ·cases e;exact .inr rfl
  ·cases e
 |case2 M t O u x ax G=>
  simp only[cons_append,codeAmong]at e |-;split at e
  ·rename_i hc;rw[if_pos hc];exact .inl e
  ·rename_i hc;rw[if_neg hc];exact G h e
 |case3 l h1 h2=>exact h.elim
section
variable {X:Cx}{ah:AO}{σ:St}{H:Hp}{s:Shared}
def Go 
  (hx:x∈mN) (L:Ec X.K x) (hc:∀c P,tabIn X.K x=some (c,P)->X.env.code=.ref c) (hq:X.env.qual ++ "<lambda>" = qE x) (Ts:defaultsOf params X.env=([],[])) (R:closureFor scope X.env=pure cl)
  (I:Inv X ah σ H s) (tb:Tb X.K H) (k:∀f H' s',Inv X ah σ H' s'->aU H H'->Gn H' f (qE x) params body scope cl->Q (.ref f) s'):
  wq X (eval (.Lambda params body scope pos) X.env) Q E s:=by
 refine kla_eval Ts ?_;rw[hq];obtain⟨c,P,S,o,vs,Tt,tf,QF,tg,Xv,Tu,tt,lk,ck⟩:=L;have M:=hc c P S;have j:=tb x hx c P S;obtain⟨ps,e,l,co⟩:=I.hok P _ j;have C:CodeHd s.heap c P:=⟨o,vs,Tt,tf,QF,tg,Xv,Tu,tt,I.kIn c o lk,ck⟩;have V:s.heap.Ns mainGlobals X.mg:=I.mod.glob.keeps I.bk;have m:∀b,H b=none->b≠P:=λb n z=>by rw[z,j]at n;cases n
 have Xw:mainGlobals≠P:=by
  obtain⟨og,_,_,B,_⟩:=I.mod.glob;exact m _ (I.bs _ _ B).2
 have hb:s.heap.BuiltinsAt X.mg P:=by
  obtain⟨bm,ob,b1,b2,b3,b4,b5,D⟩:=I.mod.bmain;refine⟨bm,ob,b1,b2,λz=>?_,m _ (I.bs _ _ b3).2,I.bk _ _ b3,b4,b5,D⟩;obtain⟨og,es,ep,B,dg,_⟩:=I.mod.glob;rw[z,B]at b3;cases b3;rw[dg]at D;cases D
 cases hf:codeAmong pos ps.toList with
 |some cv=>
  obtain⟨G,oc,u,p,t,rfl,hH,hd,hv⟩:=co pos cv hf;refine kla_makeFunctionHit (mg:=X.mg) R I.ok.glob V M C e l hf hb λO h' tk hk hsz=>?_;have hn:H h'.objs.size=none:=I.hok.fresh hsz;have T:aU H (upd H h'.objs.size (.frz (kla_obj "<lambda>" (qE x) params body scope cl ((X.mg "__name__").getD .none) G O) (.own h'.objs.size))):=λb u q=>by rw[aG (bg q hn)];exact q
  refine k _ _ _ (I.laid (t':=tk) (λb u q=>vZ _ (hk b u q)) hsz (show bI X.prog X.w _ _ _ (.frz _ (.own h'.objs.size))from ⟨vY _ rfl,_,vY _ rfl⟩)) T ?_;exact⟨_,G,O,_,oc,u,p,t,aB,T _ _ hH,hd,hv⟩
 |none=>
  refine kla_makeFunction (mg:=X.mg) R I.ok.glob V M C e l hf Xw hb λG O h' tk hx' a W g F=>?_;obtain⟨c2,oc,p,t,e2,Y,hd,hv⟩:=g;cases e2
  have Tv:H G=none:=I.hok.fresh a;have hsz:s.z<=h'.objs.size:=vR a (le_of_lt W);have Xx:H h'.objs.size=none:=I.hok.fresh hsz;have Xy:G≠h'.objs.size:=vS W;let h:Obj:=kla_obj "<lambda>" (qE x) params body scope cl ((X.mg "__name__").getD .none) G O;let y:Hp:=upd (upd H G (.frz oc (.own G))) h'.objs.size (.frz h (.own h'.objs.size));have T:aU H y:=λb u q=>by
   show upd _ _ _ b=_;rw[aG (bg q Xx),aG (bg q Tv)];exact q
  have J:y G=some (.frz oc (.own G)):=by show upd _ _ _ G=_;rw[aG Xy,aB]
  have keep:∀b u,b≠P->s.heap.get? b=some u->(h'.push h).get? b=some u:=λb u n q=>vZ _ (hx' b u n q);have lt:∀b u,s.heap.get? b=some u->b≠G/\b≠h'.objs.size:=λb u q=>⟨vS (vQ (vX q) a),vS (vQ (vX q) hsz)⟩;have U:(h'.push h).get? P=some (tabObj (ps++#[rawInt pos.line,rawInt pos.col,.ref G])):=vZ _ F;refine k _ y _ (I.un (t':=tk) (h':=h'.push h) ⟨λb u q n _ _=>keep b u (m b n) q,λb u q n _ _=>⟨u.slots,keep b u (m b n) q⟩,λb u q n _=>?_,λb u q _=>?_,λb xs q=>T _ _ q,λb ob u q=>T _ _ q,λb u q=>T _ _ q⟩ λb u q=>?_) T ⟨_,G,O,_,oc,_,p,t,aB,J,hd,hv⟩
  ·show upd _ _ _ b=_;rw[aG (lt b u q).2,aG (lt b u q).1];exact n
  ·by_cases z:b=P
   ·subst z;exact⟨_,U⟩
   ·exact⟨u,keep b u z q⟩
  ·by_cases Z:b=h'.objs.size
   ·subst Z;have i:some (HO.frz h (.own h'.objs.size))=some u:=by rw[<-q];exact aB.symm
    cases i
    exact⟨vY _ rfl,_,vY _ rfl⟩
   ·by_cases z2:b=G
    ·subst z2;rw[J]at q;cases q;exact⟨vZ _ Y,_,vZ _ Y⟩
    ·have i:H b=some u:=by
      have:y b=H b:=by show upd _ _ _ b=_;rw[aG Z,aG z2]
      rw[<-this];exact q
     by_cases z3:b=P
     ·subst z3;rw[j]at i;cases i;refine⟨_,U,?_,λHV N A=>?_⟩
      ·rw[Array.toList_append];exact TriplesOk_snoc _ _ _ _ l
      ·rw[Array.toList_append]at A;rcases AY _ l A with A|rfl
       ·obtain⟨c3,Xz,u3,X0,t3,y1,y2,y3⟩:=co HV N A;exact⟨c3,Xz,u3,X0,t3,y1,T _ _ y2,y3⟩
       ·exact⟨G,oc,_,p,t,rfl,J,hd,hv⟩
     ·refine(I.hok b u i).stay (λd v Tz r=>keep d v ?_ r) (λd r=>T _ _ r) (λd xs r=>T _ _ r) λd ob v r=>T _ _ r;rcases Tz with rfl|r
      ·exact z3
      ·intro z;rw[z,j]at r;cases r
end
section
variable {P:Program}{w:World}{K:Frag}{mg:SV}{base:Heap}
def cJ.fnL {x:Str}{st:Stmt}{N ps:LS}{k:Nat}{g:FS}{h:Heap}(F:cJ K x st)(X:K.In h)(G:h.Ns mainGlobals mg)(S:FnScope N ps (aJ st))
  (O:∀(kV doc pm:Value)(an:Option Addr)(cW ct:Value)(us:LU),us.length=ps.length->bindArgs (fnOf x x (dN st) (cf st) (aJ st) .none kV doc pm an cW ct) ⟨us,[]⟩=pure (ps.zip us))
  (hb:∀(f:Addr)(cW:Value)(A:Around)(outer:List PySem.Env)(s:Shared)(H:Hp)(E:XK),(∀c P,tabIn K x=some (c,P)->cW=.ref c)->eV k (A.deeper (envOfC x (aJ st) s.z f cW))->um (oh xZ P w K mg base N x (aJ st) f cW A outer s H E).nox (cf st) g):
  Fn P w K mg base (k+1) x (aE g ps.length (N.length - ps.length)):=by
 obtain⟨f,fd,T,a⟩:=F;have o:=T;obtain⟨oc,od,kV,doc,pm,an,cW,ct,lI,rfl,n,U⟩:=o.ex;have hc:∀c P,tabIn K x=some (c,P)->cW=.ref c:=λc P e=>by
  unfold tabIn at e;simp only[a,n]at e;split at e
  ·rename_i z _;split at e
   ·split at e
    ·cases e;rfl
    ·cases e
   ·cases e
  ·cases e
 have len:∀vs H Q E,F8 K (aE g ps.length (N.length - ps.length)) vs H Q E->vs.length=ps.length:=λvs H Q E h=>by
  obtain⟨B,ds,d,b,j,i,e,q⟩:=h;unfold aE at e;split at e
  ·rename_i hl;rw[i.length];exact hl
  ·cases e
 refine⟨f,_,ps,Fe n U S len λA outer s H vs Q E p h=>⟨_,tI.nox (hb f cW A outer s H E hc p),?_⟩,mg_of X G a,T.kp,T.binds O⟩;have M:=len vs H Q E h;obtain⟨B,ds,d,b,j,i,e,q⟩:=h;unfold aE at e;rw[if_pos (by rw[<-i.length];exact M)]at e;have l:=qK (N:=N) j.1 j.2 i;rw[M]at l;split at e
 ·rename_i d' C m;cases e
  exact⟨B,H,_,_,⟨B,l⟩,m,λv H' N' r t u=>q v H' N' r t u⟩
 ·rename_i ρ' m;cases e
  exact⟨B,H,_,_,⟨B,l⟩,m,λy H' ⟨N',s'⟩=>q .non H' N' s'.ext .non (by simp)⟩
 ·cases e
end
inductive ma (X:Cx)(N':List Str)(scope:Scope)(cl:List (Str×Addr)):Nat->List Nat->Prop where
 |nil {j:Nat}(h:N'.length=j):ma X N' scope cl j []
 |cons {j i:Nat}{r:List Nat}{x:Str}(h1:N'[j]? = some x) (h2:X.N[i]? = some x) (h3:X.env.kindOf x=some .cell\/X.env.kindOf x=some .free)
   (h4:scope.names.lookup x=some .free) (h5:cl.lookup x=X.env.cells.lookup x) (t:ma X N' scope cl (j+1) r):ma X N' scope cl j (i::r)
theorem ma.len:∀ {j:Nat}{cap:LN},ma X N' scope cl j cap->N'.length=j+cap.length
 |_,_,.nil h=>by rw[h];rfl
 |j,i::r,.cons _ _ _ _ _ t=>by rw[t.len,vE];omega
theorem ma.get:∀ {j:Nat}{cap:LN}{k i:Nat},ma X N' scope cl j cap->cap[k]? = some i->∃x,N'[j+k]? = some x/\X.N[i]? = some x/\(X.env.kindOf x=some .cell\/X.env.kindOf x=some .free) /\
  scope.names.lookup x=some .free/\cl.lookup x=X.env.cells.lookup x
 |_,_,_,_,.nil _,e=>by simp at e
 |j,_,0,_,.cons h1 h2 h3 h4 h5 _,e=>by simp at e;subst e;exact⟨_,h1,h2,h3,h4,h5⟩
 |j,_,k+1,i,.cons _ _ _ _ _ t,e=>by
  obtain⟨x,q,r⟩:=t.get (k:=k) (i:=i) (by simpa using e);exact⟨x,by rw[show j+(k+1)=j+1+k by omega];exact q,r⟩
noncomputable abbrev zg (X:Cx)(N':LS)(scope:Scope)(cl:List (Str×Addr))(q:Str)(A:Around)(f c:Addr)(s:Shared)(H:Hp):Cx :=
 { X with A:=A.deeper (envX q scope s.z f (.ref c) cl),N:=N',s₀:=s,H₀:=H,env:=envX q scope s.z f (.ref c) cl,outer:=X.stack,stack:=envX q scope s.z f (.ref c) cl::X.stack,ex:=[],fn:=λ_=>false,calm:=true,pn:=[],xe:=λ_ _=>False }
structure LamSc (X:Cx)(scope:Scope)(cl:List (Str×Addr))(y:Str):Prop where
 clos:closureFor scope X.env=pure cl
 nocell:∀z∈scope.names,z.2≠.cell
 kind:scope.kind=.function
 co:scope.isCoroutine=false
 gen:scope.isGenerator=false
 par:scope.names.lookup y=some .local
 sub:∀x c,cl.lookup x=some c->X.env.cells.lookup x=some c
 has:∀x,scope.names.lookup x=some .free->∃c,cl.lookup x=some c
def Gp (h1:∀z∈scope.names,z.2≠.cell)(h2:scope.kind=.function)(h3:scope.isCoroutine=false)(G:scope.isGenerator=false)(hp:scope.names.lookup y=some .local)
  (M:(scope.names.all λz=>!(z.2 == NameKind.free) || (X.env.cells.lookup z.1).isSome)=true):LamSc X scope (dW scope.names X.env.cells []) y:=by
 have h4:∀z∈scope.names,z.2=.free->(X.env.cells.lookup z.1).isSome=true:=λz hz e=>by
  have:=uR M z hz;rw[e]at this;simpa using this
 exact⟨uo scope.names [] h4,h1,h2,h3,G,hp,λx c e=>mP scope.names [] (λy d q=>by cases q) e,λx h=>by
  have:=mQ (x:=x) scope.names [] (gh h) (h4 _ (gh h) rfl);exact uU this⟩
section
variable {X:Cx}{ah:AO}{σ:St}{H:Hp}{s:Shared}{A:Around}{N':LS}{scope:Scope}{cl:List (Str×Addr)}{q y:Str}{cap:LN}
def Ju (S:LamSc X scope cl y)(n:N'[0]? = some y)(l:ma X N' scope cl 1 cap)(I:Inv X ah σ H s)(t:A.frames=some X.stack)(hh:A.handled=none)(r:bf v u)
  (B:h₁.Ns s.z (λx=>[(y,u)].reverse.lookup x)) (hk:∀b o,s.heap.get? b=some o->h₁.get? b=some o):
  Inv (zg X N' scope cl q A f c s H) [] (some v::tN 0 cap σ) H { s with heap:=h₁,toks:=tk }:=by
 have M:∀b:Addr,b∉(zg X N' scope cl q A f c s H).ex:=λb z=>absurd (show b∈([]:List Addr)from z) (by simp);refine⟨⟨I.ok.mod,S.kind,rfl,rfl,vT _,λx z d U e2=>I.ok.inj x z d (S.sub _ _ U) (S.sub _ _ e2),λx hx=>?_,(λx d e=>by cases e),λ_=>hh,Around.frames_deeper t,.inr ⟨rfl,rfl⟩,λb z=>absurd z (M b),I.bs,vR I.ok.bsz I.sz,λb _ _=>M b,λb z=>absurd z (M b),I.stack,I.stkFree⟩,
  rfl,I.bare,Un.kept hk,⟨_,B,λi x a U e2 J=>?_⟩,λx d e=>?_,I.hok.fresh (vT _),λx d e=>I.freeC x d (S.sub _ _ e),λp hp=>absurd (show p∈([]:AO)from hp) (by simp),I.hok.kept hk,?_⟩
 ·have hx':scope.names.lookup x=some .cell\/scope.names.lookup x=some .free:=hx;rcases hx' with hx'|hx'
  ·exact absurd rfl (S.nocell _ (gh hx'))
  ·exact S.has x hx'
 ·cases i with
  |zero=>
   have G:N'[0]? = some x:=U;rw[n]at G;cases G;have O:some v=some a:=by simpa using e2
   cases O
   exact⟨u,r,.inl ⟨S.par,by simp⟩⟩
  |succ k=>
   have O:(tN 0 cap σ)[k]? = some (some a):=by simpa using e2
   obtain⟨k',g,K,g1,T⟩:=wO O;have:k=k':=by omega
   subst this;obtain⟨h,n1,n2,n3,n4,n5⟩:=l.get g1;have:h=x:=by
    have G:N'[k+1]? = some x:=U;rw[show 1+k=k+1 by omega]at n1;rw[n1]at G;exact vK G
   subst this;have C:σ[g]? = some (some a):=by
    cases z:σ[g]? with
    |none=>rw[z]at T;cases T
    |some w=>rw[z]at T;cases w with
     |none=>cases T
     |some w=>cases T;rfl
   obtain⟨m,_,hl⟩:=I.loc;obtain⟨D,ru,E⟩:=hl g h a n2 C (by
    rcases n3 with n3|n3
    ·exact .inr (.inl n3)
    ·exact .inr (.inr n3))
   refine⟨D,ru,.inr ⟨.inr n4,?_⟩⟩;rcases E with⟨l1,_⟩|⟨_,d,l2,F⟩
   ·rcases n3 with n3|n3<;>(rw[l1]at n3;cases n3)
   ·obtain⟨ob,j,hd⟩:=F;exact⟨d,by show cl.lookup h=_;rw[n5];exact l2,ob,hk _ _ j,hd⟩
 ·obtain⟨w,ob,j,hd⟩:=I.cell x d (S.sub _ _ e);exact⟨w,ob,hk _ _ j,hd⟩
 ·have:=l.len;show(some v::tN 0 cap σ).length=N'.length;unfold tN;rw[this];simp;omega
def Jv (S:LamSc X scope cl y)(l:N'[0]? = some y)(m:ma X N' scope cl 1 cap)(I:Inv X ah σ H s)
  (n:A.frames=some X.stack) (hh:A.handled=none) (G:A.depth<recursionLimit) (p:Gn H f q params body scope cl)
  (M:∀pm c T u,bindArgs (kla_fn "<lambda>" q params body scope cl pm (.ref c) T) ⟨[u],[]⟩=pure [(y,u)])
  (hb:∀(f c:Addr)(s:Shared)(H:Hp),JE (zg X N' scope cl q A f c s H) body fb)
  (rep:ga X.K B σ ρ) (x:aU B H) (r:bf v u) (i:Is X.K B v d) (e:fb (some (d,false)::eP 0 cap ρ)=some (d',b')) (C:Fin X.K B H d' b' Q):
  wpAny (model X.prog X.w) A (call (.ref f) [u]) (EP X ah σ Q) (λ_ _=>False) s:=by
 obtain⟨pm,c,T,Y,oc,Z,D,t,hf,hc,hd,hv⟩:=p;have E:=(I.hok f _ hf).1;have F:=(I.hok c _ hc).1;refine wpAny_call (codeAny_mono (R:=λr s'=>CR xZ X.stack X.prog X.w H s Q (λ_ _ _=>False) r s') ?_ λr s' hq=>?_)
 ·refine kla_callFunE G E rfl S.co S.gen rfl ⟨c,oc,D,t,rfl,F,hd,hv⟩ ?_;rw[M];refine wY (wpAny_newFunctionEnv S.nocell (λz hz=>by rw[uT hz];exact S.par) (λU L a=>⟨I.nolimit.fresh _ a,?_⟩) S.kind);have O:∀b o,s.heap.get? b=some o->U.get? b=some o:=λb o e=>a.extBut b o (vS (vX e)) (vZ _ e);have J:=Ju (f:=f) (c:=c) (q:=q) (tk:=s.toks+1) S l m I n hh r L O;refine kla_codeExpr (wpAny_mono (hb f c s H [] _ _ H Q J ⟨B,_,d',b',x,⟨rep.tb,λj h k z=>?_⟩,e,C⟩) (λw s' hw=>?_) λ_ _ z=>z.elim)
  ·cases j with
   |zero=>
    have N:some (d,false)=some (h,k):=by simpa using z
    cases N
    exact⟨v,rfl,i⟩
   |succ j=>
    obtain⟨w,h1,h2⟩:=(rep.caps (nT:=0) (cap:=cap)).at' j h k (by simpa using z);exact⟨w,by simpa using h1,h2⟩
  ·obtain⟨P,H',g,V,W⟩:=hw;exact⟨P,H',g.os,g.bare,g.base,g.hok,V,W⟩
 ·cases r with
  |error e=>exact False.elim hq
  |ok fl=>
   cases fl with
   |ret w=>exact I.after hq
   |next=>exact False.elim hq
   |brk=>exact False.elim hq
   |cont=>exact False.elim hq
end
end DL
namespace DL
open PySem PySem.Spec PySem.W PyProof.Rows L2
section
variable {X:Cx}{ah:AO}{σ:St}{H:Hp}{s:Shared}{h':Heap}{t':Nat}
def o9 (I:Inv X ((p,o)::ah) σ H s):∀x c,X.env.cells.lookup x=some c->c≠p:=λx c e z=>by
 have G:=I.pin (p,o) (mY _ mX);obtain⟨v,ob,M,hd⟩:=I.cell x c e;rw[z,G.1]at M;cases M;exact G.2.2.2.2 v hd
def kH (I:Inv X (p::ah) σ H s):Inv X ah σ H s:=I.pins_of λq hq=>I.pin q (mY _ (mZ _ hq))
def iA (I:Inv X ((p,o)::ah) σ H s)(h0:X.s₀.z<=p)(hp:∀q∈X.pn++ah,q.1≠p)(k:∀b u,b≠p->s.heap.get? b=some u->h'.get? b=some u)(M:h'.get? p=some o')(O:∀v,o'.data≠.cell v):
  Inv X ((p,o')::ah) σ H { s with heap:=h',toks:=t' }:=by
 have G:=I.pin (p,o) (mY _ mX);have J:=(kH I).turned (t':=t') k G.2.1 G.2.2.1 (.inr h0) (o9 I) hp;refine J.pins_of λq hq=>?_;rcases vP hq with rfl|hq
 ·exact⟨M,G.2.1,G.2.2.1,G.2.2.2.1,O⟩
 ·exact J.pin q (mY _ hq)
def qj (I:Inv X ah σ H s)(k:∀b u,s.heap.get? b=some u->h'.get? b=some u)(hs:s.z<=p)(G:h'.get? p=some o)(M:∀v,o.data≠.cell v):Inv X ((p,o)::ah) σ H { s with heap:=h',toks:=t' }:=by
 have J:=I.kept (t':=t') k;refine J.pins_of λq hq=>?_;rcases vP hq with rfl|hq
 ·exact⟨G,I.hok.fresh hs,ne_of_gt (vQ I.lt hs),I.nofs hs,M⟩
 ·exact J.pin q (mY _ hq)
def Jw (I:Inv X ((p,o)::ah) σ H s)(h0:X.s₀.z<=p)(hp:∀q∈X.pn++ah,q.1≠p)(k:∀b u,b≠p->s.heap.get? b=some u->h'.get? b=some u)(U:∃u,h'.get? p=some u)
  (new:bI X.prog X.w (upd H p ob) h' p ob):Inv X ah σ (upd H p ob) { s with heap:=h',toks:=t' }:=by
 have G:=I.pin (p,o) (mY _ mX);have hn:=G.2.1;have hn:H p=none:=hn;have cs:=o9 I;refine(kH I).step (g':=s.gens) (d':=s.drawn) (ch:=[p]) (λb hb=>?_) (λb u _ _ hc e _=>k b u (λz=>hc (by simp[z])) e) (λb u _ _ hc e _=>⟨u.slots,k b u (λz=>hc (by simp[z])) e⟩) (λb u hc _ n=>by rw[aG (λz=>hc (by simp[z]))];exact n)
  (λb u hc e=>⟨u,k b u (λz=>hc (by simp[z])) e⟩) (λb xs e=>by rw[aG (bg e hn)];exact e) (λb u w e=>by rw[aG (bg e hn)];exact e) (λb q e=>by rw[aG (bg e hn)];exact e) (λm hm=>?_) (λb u e=>?_) I.bare
 ·have z:b=p:=by simpa using hb
  subst z;exact⟨.inr h0,G.2.2.1,cs,hp⟩
 ·obtain⟨M,es,O,T,r⟩:=hm;exact⟨M,es,O,k _ M (λz=>G.2.2.1 z.symm) T,r⟩
 ·by_cases z:b=p
  ·subst z;rw[aB]at e;cases e;exact new
  ·rw[aG z]at e;refine(I.hok b u e).stay (λc v hc q=>k c v ?_ q) (λc q=>?_) (λc xs q=>?_) λc w xs q=>?_
   ·rcases hc with rfl|hc
    ·exact z
    ·exact bg hc hn
   ·rw[aG (bg q hn)];exact q
   ·rw[aG (bg q hn)];exact q
   ·rw[aG (bg q hn)];exact q
end
def Cv (X:Cx)(A:Around)(σ:St)(G:Value)(B M:Hp)(O:D->Option D):Prop :=
 ∀(ah:AO)(s:Shared)(H N:Hp)(v:V)(u:Value)(d d':D),Inv X ah σ H s->aU M H->aU B N->aU N H->Is X.K N v d->bf v u->O d=some d' ->
  wpAny (model X.prog X.w) A (call G [u]) (EP X ah σ λT H'=>∃N',Ext N N' H H'/\Is X.K N' T d') (λ_ _=>False) s
def JK (X:Cx)(A:Around)(e:Expr)(O:Env->D->Option D):Prop:=∀(ah:AO)(s:Shared)(σ:St)(H B:Hp)(ρ:Env)(Q:QV)(E:QV),Inv X ah σ H s->aU B H->ga X.K B σ ρ ->
 (∀M G s1,Inv X ah σ G s1->aU H G->Cv X A σ (.ref M) B G (O ρ)->Q (.ref M) s1)->wq X (eval e X.env) Q E s
section
variable {X:Cx}{A:Around}
@[simp] def xw (cap:LN)(G:FE):Env->D->Option D:=λρ d=>(G (some (d,false)::eP 0 cap ρ)).map (·.1)
def AZ (hx:x∈mN)(L:Ec X.K x)(hc:∀c P,tabIn X.K x=some (c,P)->X.env.code=.ref c)(hq:X.env.qual ++ "<lambda>" = qE x)
  (M:defaultsOf params X.env=([],[])) (S:LamSc X scope (dW scope.names X.env.cells []) y) (b:N'[0]? = some y) (g:ma X N' scope (dW scope.names X.env.cells []) 1 cap) (h:A.frames=X.A.frames) (O:eV (k+1) A)
  (G:∀pm c T u,bindArgs (kla_fn "<lambda>" (qE x) params body scope (dW scope.names X.env.cells []) pm (.ref c) T) ⟨[u],[]⟩=pure [(y,u)])
  (hb:∀(f c:Addr)(s:Shared)(H:Hp),eV k (zg X N' scope (dW scope.names X.env.cells []) (qE x) A f c s H).A->JE (zg X N' scope (dW scope.names X.env.cells []) (qE x) A f c s H) body fb):JK X A (.Lambda params body scope pos) (xw cap fb):=by
 intro ah s σ H B ρ Q E I i rep j;refine Go hx L hc hq M S.clos I (rep.tb.mono i) λf l s1 m n o=>j f l s1 m n ?_;intro U s' H' N v u d d' a m1 m2 p iv r e;simp only[xw]at e;obtain⟨⟨d2,b2⟩,q,e2⟩:=oY e;cases e2
 exact Jv S b g a (h.trans a.ok.frames) O.hd O.depth (o.mono m1) G (λf c s H=>hb f c s H (O.deeper _)) (rep.mono m2) p r iv q λw H2 N2 t i2 _=>⟨N2,t,i2⟩
@[simp] noncomputable def tW (g:LD->OB):Env->D->Option D:=λ_ d=>(g [d]).map (·.1)
def Cw (F:Fn X.prog X.w X.K X.mg X.base k x g)(b:eV k A)(c:A.frames=X.A.frames)(f:Gl X x:=by rfl)(M:(x == ("__debug__" : Str))=false:=by decide):JK X A (.Name x p) (tW g):=by
 intro ah s σ H B ρ Q E I m rep h;obtain⟨ad,fd,ps,U,hm,hk,hb⟩:=F.ex;refine w4 I f hm ?_ M;refine h ad H s I (.refl H) ?_;intro O s' H' N v u d d' T m1 m2 i iv r e;simp only[tW]at e;obtain⟨⟨d2,b2⟩,j,e2⟩:=oY e;cases e2
 have sp:F8 X.K g [v] H' (λa H2=>∃N',Ext N N' H' H2/\Is X.K N' a d2) (λ_ _ _=>False):=⟨N,[d],d2,b2,⟨i,rep.tb.mono m2⟩,.cons iv .nil,j,λa H2 N2 l i2 _=>⟨N2,l,i2⟩⟩;have hl:[u].length=ps.length:=by have:=U.len _ _ _ _ sp;simpa using this
 have G:=T.env0;have bb:=hb s' [u] T.kIn (by simpa using hl);rw[uQ]at bb;refine wpAny_call (codeAny_mono (U.run A X.stack s' H' ⟨[u],[]⟩ [u] [v] _ (λ_ _ _=>False) b ⟨c.trans G.frames,G.mod,G.bs,G.bsz,G.funs,G.frf,G.hok,G.bare⟩ bb (.cons r .nil) sp) λr s' hq=>?_);cases r with
 |error e=>exact False.elim hq
 |ok fl=>
  cases fl with
  |ret w=>exact T.after hq
  |next=>exact False.elim hq
  |brk=>exact False.elim hq
  |cont=>exact False.elim hq
end
noncomputable def jL (f:D->Option D):LD->Option LD
 |[]=>some []
 |d::ds=>(f d).bind λx=>(jL f ds).map (x :: ·)
theorem kI:∀ {ds ks:LD},jL f ds=some ks->ks.length=ds.length
 |[],_,h=>by simp only[jL]at h;cases h;rfl
 |d::ds,_,h=>by
  simp only[jL]at h;obtain⟨a,h1,h⟩:=oX h;obtain⟨r,h2,h⟩:=oY h;subst h;simp[kI h2]
theorem ri:∀ {ds ks:LD},jL f ds=some ks->∀ {i:Nat}{d:D},ds[i]? = some d->∃k,ks[i]? = some k/\f d=some k
 |[],_,h,i,d,e=>by simp at e
 |d::ds,_,h,0,e,q=>by
  simp only[jL]at h;obtain⟨a,h1,h⟩:=oX h;obtain⟨r,h2,h⟩:=oY h;subst h;simp at q;subst q;exact⟨a,by simp,h1⟩
 |d::ds,_,h,i+1,e,q=>by
  simp only[jL]at h;obtain⟨a,h1,h⟩:=oX h;obtain⟨r,h2,h⟩:=oY h;subst h;obtain⟨k,G,M⟩:=ri h2 (i:=i) (d:=e) (by simpa using q);exact⟨k,by simpa using G,M⟩
structure KK (X:Cx)(A:Around)(kd:List D->Option (List (List At)))(ok:List (List At)->Bool):Prop where
 len:∀ {ds:List D}{ks:List (List At)},kd ds=some ks->ks.length=ds.length
 ask:∀ {ah:List (Addr×Obj)}{σ:St}{H:Hp}{s:Shared}(_:Inv X ah σ H s) {ys:List V}{ds:List D}{ks:List (List At)}{its:List Value},bq ys its->IsL X.K H ys ds->kd ds=some ks->ok ks=true->dn ks=true ->
  (0<ks.length->∀ {E:Value->Shared->Prop}{Q:SortKind->Shared->Prop},Q (tuples' true) s->wpAny (model X.prog X.w) A (keyKind' its.toArray) Q E s) /\
  ∀(i j:Nat)(C:Bool->Shared->Prop)(s1:Shared),i<ks.length->j<ks.length->s1=s->(∀s',s'=s->C (rb (Aw ks) i j) s')->kas_ask X.prog X.w A (tuples' true) its i j C s1
def Gq:KK X A dH dG:=⟨gn,λI _ _ _ _ r i e hf hc=>have hp:=nn I r i e;⟨λhn _ _ q=>za hp hf hn q,Cr hc hp⟩⟩
section
variable {X:Cx}{ah:AO}{σ:St}{s:Shared}
theorem uK (r:bf x u):∀ {vs:LV}{us:LU},bq vs us->bq (vs++[x]) (us++[u])
 |_,_,.nil=>.cons r .nil
 |_,_,.cons h t=>.cons h (uK r t)
def dA:∀v,(Obj.mk c od (.seq its n) sl).data≠.cell v:=λv z=>by cases z
def Ba 
  (I:Inv X ((a,seqObj "list" its.toArray n)::ah) σ H s) (h0:X.s₀.z<=a) (hp:∀q∈X.pn++ah,q.1≠a) (Il:Cv X A σ qv B H kf) (l:bq vs its) (iv:IsL X.K B vs ds) (sB:aU B H)
  (M:KK X A kd ok) (L:jL kf ds=some jD) (ek:kd jD=some ks) (hc:dn ks=true) (hf:ok ks=true) (LC:its.length<64)
  (h:∀(p:Array Nat)(s':Shared)(H' N:Hp),nY its.length p->Up (Aw ks) p its.length->Inv X ah σ (upd H' a (.lst (p.toList.map λi=>vs.getD i .non))) s'->Ext B N H H'->H' a=none->P (.done (.ret .none)) s'):
  wpAny (model X.prog X.w) A (ksk_tree a qv false) P E s:=by
 have g:=I.pin (a,seqObj "list" its.toArray n) (mY _ mX)
 have L7:vs.length=its.length:=l.length
 have LA:ds.length=vs.length:=iv.length.symm
 have X2:jD.length=ds.length:=kI L
 have X3:ks.length=jD.length:=M.len ek
 have hz:its.length<=sizeLine:=by rw[sizeLine_eq];omega
 have Y6:H a=none:=g.2.1
 obtain⟨T,R⟩:∃T,(s.heap.update a (Obj.mapSeq λ_=>(#[]:AV))).get? a=some (seqObj "list" #[] T):=⟨_,get?_update_seq g.1 λ_=>#[]⟩
 have u1:=vW s.heap a (Obj.mapSeq λ_=>(#[]:AV))
 have I1:Inv X ((a,seqObj "list" #[] T)::ah) σ H { s with heap:=s.heap.update a (Obj.mapSeq λ_=>(#[]:AV)) }:=iA (t':=s.toks) I h0 hp (λb u n q=>(u1.2 b n).trans q) R dA
 let h2:Heap:=(s.heap.update a (Obj.mapSeq λ_=>(#[]:AV))).push (seqObj "tuple" its.toArray 0)
 have m:Inv X ((a,seqObj "list" #[] T)::ah) σ H { s with heap:=h2 }:=I1.kept (t':=s.toks) λb u q=>vZ _ q
 let kS:Addr:=h2.objs.size
 have I3:Inv X ((kS,seqObj "list" #[] 0)::(a,seqObj "list" #[] T)::ah) σ H { s with heap:=h2.push (seqObj "list" #[] 0) }:=qj (s:={ s with heap:=h2 }) (t':=s.toks) m (λb u q=>vZ _ q) (vT _) (vY _ rfl) dA
 have k0:X.s₀.z<=kS:=m.sz
 have kp:∀q∈X.pn++((a,seqObj "list" #[] T)::ah),q.1≠kS:=λq hq=>vS (vX (m.pin q hq).1)
 have Y7:kS≠a:=λz=>kp (a,seqObj "list" #[] T) (mY _ mX) z.symm
 unfold ksk_tree
 refine wX (listItems_at g.1 rfl ?_)
 refine wX (listUpdate_at g.1 rfl ?_ (by simpa using hz) (uN _))
 refine wX (seqEpoch_at R rfl ?_)
 refine wX (wpAny_newTuple ?_ (by show its.length<=sizeLine;exact hz))
 refine wX (wpAny_newList ?_ (uN _))
 refine wpAny_holding ?_
 show wpAny (model X.prog X.w) A (ksk_rest a qv false its.toArray T (.ref kS)) P E { s with heap:=h2.push (seqObj "list" #[] 0) }
 unfold ksk_rest
 refine wX (wpAny_rule ?_)
 rw[List.forIn_toArray]
 refine wX (ksk_fold (λi s'=>∃(H' N:Hp)(kA:AV)(e:Nat)(aK:LV),Inv X ((kS,seqObj "list" kA e)::(a,seqObj "list" #[] T)::ah) σ H' s'/\Ext B N H H'/\bq aK kA.toList/\IsL X.K N aK (jD.take i)) its 0 _
  ⟨H,B,#[],0,[],I3,.refl sB,.nil,by simpa using IsL.nil⟩ ?step ?done)
 case step=>
  rintro j u s' hu ⟨H',N,kA,e,aK,J,c,rk,ik⟩
  simp only[Nat.zero_add]at ik |-
  have hj:j<its.length:=(vV hu).1
  obtain⟨d,hd⟩:∃d,ds[j]? = some d:=⟨_,vU (by omega)⟩
  obtain⟨v,hv,QG⟩:=iv.get hd
  obtain⟨kd,X4,T1⟩:=ri L hd
  obtain⟨u',S,ru⟩:=l.get hv
  rw[hu]at S;cases S
  have kl:kA.size=j:=by
   have V:=rk.length
   have W:=ik.length
   rw[length_take]at W
   rw[vG]at V
   exact V.symm.trans (W.trans (Nat.min_eq_left (by omega)))
  refine wX (wpAny_attempt (wpAny_mono (Il _ s' H' N v u d kd J c.hh c.bn c.nh (QG.mono c.bn) ru T1) (λw o hw=>?_) λ_ _ hF=>hF.elim))
  obtain⟨v',X5,Y,X6,N',Z,i2⟩:=hw
  have f:=Y.pin (kS,seqObj "list" kA e) (mY _ mX)
  obtain⟨t,Ov⟩:∃t,(o.heap.update kS (Obj.mapSeq (·.push w))).get? kS=some (seqObj "list" (kA.push w) t):=⟨_,get?_update_seq f.1 (·.push w)⟩
  have u2:=vW o.heap kS (Obj.mapSeq (·.push w))
  refine wX (listUpdate_at f.1 rfl ?_ (by rw[sizeLine_eq];omega) (vR (le_of_eq (Array.size_push ..)) (by rw[sizeLine_eq];omega)))
  refine wY ⟨rfl,X5,N',kA.push w,t,aK++[v'],iA (t':=o.toks) Y k0 kp (λb q n z=>(u2.2 b n).trans z) Ov dA,c.trans Z,?_,?_⟩
  ·rw[toList_push];exact uK X6 rk
  ·rw[take_add_one,X4];exact(ik.mono Z.bn).append (.cons i2 .nil)
 case done=>
  rintro s' ⟨H',N,kA,e,aK,J,c,rk,ik⟩
  have Vj:IsL X.K N aK jD:=by
   have z:jD.take (0+its.length)=jD:=List.take_of_length_le (by omega)
   rw[z]at ik;exact ik
  have f:=J.pin (kS,seqObj "list" kA e) (mY _ mX)
  have X7:=J.pin (a,seqObj "list" #[] T) (mY _ (mZ _ mX))
  have S8:H' a=none:=X7.2.1
  have x:kA.toList.length=its.length:=by rw[<-rk.length,Vj.length];omega
  have Vk:kA.size=its.length:=by rw[<-vG];exact x
  refine wX (listItems_at f.1 rfl ?_)
  have Vl:=M.ask J rk (Vj.mono c.nh) ek hf hc
  -- the end of the sort,for a permutation p
  have QI:∀(st:SortSt)(p:Array Nat),arrOf st=p.map (kas_item (kA.toList.toArray.zip its.toArray))->failedOf st=none->nY its.length p->Up (Aw ks) p its.length ->
    wpAny (model X.prog X.w) A (ksk_tail a false T (.ref kS) st) P E s':=λst p ea ef k up=>by
   have eo:(arrOf st).map (·.2)=List.toArray (p.toList.map λi=>its.getD i Value.none):=kat_snds x ea
   have Dx:∀i∈p.toList,i<vs.length:=λi hi=>by
    have:=mem_range.mp (k.perm.mem_iff.mp hi)
    omega
   obtain⟨c3,X8⟩:∃c3,(s'.heap.update kS (Obj.mapSeq λ_=>(#[]:AV))).get? kS=some (seqObj "list" #[] c3):=⟨_,get?_update_seq f.1 λ_=>#[]⟩
   have u3:=vW s'.heap kS (Obj.mapSeq λ_=>(#[]:AV))
   have J3:=kH (iA (t':=s'.toks) J k0 kp (λb q n z=>(u3.2 b n).trans z) X8 dA)
   have y:=J3.pin (a,seqObj "list" #[] T) (mY _ mX)
   obtain⟨D,Vm⟩:∃D,((s'.heap.update kS (Obj.mapSeq λ_=>(#[]:AV))).update a (Obj.mapSeq λ_=>(arrOf st).map (·.2))).get? a=some (seqObj "list" ((arrOf st).map (·.2)) D):=⟨_,get?_update_seq y.1 λ_=>(arrOf st).map (·.2)⟩
   have u4:=vW (s'.heap.update kS (Obj.mapSeq λ_=>(#[]:AV))) a (Obj.mapSeq λ_=>(arrOf st).map (·.2))
   have so:((arrOf st).map (·.2)).size=its.length:=by rw[eo];simp only[vH,vI,vG,k.size]
   unfold ksk_tail
   try dsimp only
   refine wX (listUpdate_at f.1 rfl ?_ (by rw[Vk,sizeLine_eq];omega) (uN _))
   refine wX (wpAny_letGo ?_)
   refine wX (seqEpoch_at y.1 rfl ?_)
   refine wX (listUpdate_at y.1 rfl ?_ (uN _) (by simp only[uV,if_false];rw[so,sizeLine_eq];omega))
   rw[ef]
   simp only[bne_self_eq_false,uV,if_false]
   refine wY (h p _ H' N k up (Jw (s:={ s' with heap:=s'.heap.update kS (Obj.mapSeq λ_=>(#[]:AV)) }) (t':=s'.toks) J3 h0 hp (λb q n z=>(u4.2 b n).trans z) ⟨_,Vm⟩ ?_) c S8)
   refine⟨by rw[vI,vG,k.size];exact hz,p.toList.map λi=>its.getD i Value.none,D,o8 l p.toList Dx,?_⟩
   rw[<-eo];exact Vm
  unfold ksk_end
  try dsimp only
  simp only[uV,if_false]
  have X9:kA=kA.toList.toArray:=by simp
  by_cases O:its.toArray.size<2
  ·rw[if_pos O,if_pos O]
   refine wX (wY ?_)
   rw[StateT.run_pure]
   refine wX (wY ?_)
   have Tp:its.length<2:=by simpa using O
   refine QI _ (List.toArray (List.range its.length)) ?_ rfl ⟨by simp,by simp⟩ ?_
   ·show kA.zip its.toArray=_
    have:=kas_range (kA.toList.toArray.zip its.toArray)
    rw[show(kA.toList.toArray.zip its.toArray).size=its.length by simp[Vk]]at this
    rw[this]
   ·intro i j hij hj
    have:i=j:=by omega
    subst this;exact le_refl _
  ·rw[if_neg O,if_neg O]
   have T3:2<=its.length:=by simp at O;omega
   rw[X9]
   refine wX (Vl.1 (by omega) ?_)
   obtain⟨p,r1,r2,r3⟩:=yY (n:=its.length) (rk:=Aw ks) (by omega)
   refine wX (wpAny_mono (kat_run (E:=E) (ks:=kA.toList) (vs:=its) (κ:=tuples' true) (s:=s') (Q:=λU s2=>s2=s'/\arrOf U=p.map (kas_item (kA.toList.toArray.zip its.toArray))/\failedOf U=none)
    (G:=λp' s2=>p'=p/\s2=s') x T3 LC (λp' U s2 _ e2 F e4=>by
     obtain⟨rfl,rfl⟩:=e4
     exact⟨rfl,e2,F⟩) (Run.wp (λs2=>s2=s') (λi j C s2 hi hj e hC=>Vl.2 i j C s2 (by omega) (by omega) e hC) r1 rfl λs2 e=>⟨rfl,e⟩)) (λr s2 hr=>?_) λ_ _ z=>z)
   obtain⟨⟨⟩,U⟩:=r
   obtain⟨rfl,e2,F⟩:=hr
   exact QI U p e2 F r2 r3
end
theorem zh {α G:Type}{f:α->G}:∀ {l:List α},(l.map f).Nodup->l.Nodup
 |[],_=>nodup_nil
 |a::l,h=>by
  rw[uY,nodup_cons]at h;exact nodup_cons.mpr ⟨λz=>h.1 (uS ⟨a,z,rfl⟩),zh h.2⟩
def j4 (ks:List (List At))(ds:LD):LD:=(dO (λp:List At×D=>c8 p.1) (ks.zip ds)).map (·.2)
def Gr {α T:Type}(d:α)(e:T):∀ {M:List α}{G:List T},M.length=G.length->(List.range G.length).map (λi=>(M.getD i d,G.getD i e))=M.zip G:=λ{M G} h=>by
 apply ext_getElem?;intro i;by_cases hi:i<G.length
 ·have O:i<M.length:=by omega
  have:=(getElem?_zip_eq_some (z:=(M[i],G[i]))).mpr ⟨vU O,vU hi⟩;rw[this];simp[hi,O]
 ·simp[hi,h]
def Jx {α O:Type}{G:List α}{M:List O}(nd:G.Nodup){a:α}{b c:O}(h1:(a,b)∈G.zip M)(h2:(a,c)∈G.zip M):b=c:=by
 obtain⟨i,hi⟩:=mem_iff_getElem?.mp h1;obtain⟨j,hj⟩:=mem_iff_getElem?.mp h2;obtain⟨i1,i2⟩:=getElem?_zip_eq_some.mp hi;obtain⟨U,T⟩:=getElem?_zip_eq_some.mp hj;obtain⟨e,ei⟩:=vV i1;obtain⟨f,d⟩:=vV U;have:i=j:=(List.getElem_inj nd).mp (ei.trans d.symm);subst this;rw[i2]at T;exact vK T
def Bb {ds:LD}{ks:List (List At)}{p:Array Nat}(hl:ks.length=ds.length)(hc:dn ks=true)(nd:ks.Nodup)(G:nY ds.length p)(U:Up (Aw ks) p ds.length):p.toList.map (λi=>ds.getD i .non)=j4 ks ds:=by
 unfold j4;have e:p.toList.map (λi=>(ks.getD i [],ds.getD i .non))=dO (λp:List At×D=>c8 p.1) (ks.zip ds):=by
  apply jx
  ·intro x hx y hy e;have mx:=(of_mem_zip hx).1;have a:=(of_mem_zip hy).1;have:=l8 hc mx a e;obtain⟨k1,d1⟩:=x;obtain⟨k2,d2⟩:=y;have z:k1=k2:=this;subst z;rw[Jx nd hx hy]
  ·have:=G.perm.map (λi=>(ks.getD i [],ds.getD i D.non));rw[Gr [] D.non hl]at this;exact this
  ·rw[List.pairwise_iff_getElem];intro i j hi hj M;have hsz:=G.size;have O:i<p.size:=by simpa using hi
   have T:j<p.size:=by simpa using hj
   have:=U i j (le_of_lt M) (by omega);unfold c6 Aw at this;have b:p.getD i 0=p[i]:=by rw[getD_eq_getD_getElem?,getElem?_eq_getElem O];rfl
   have c:p.getD j 0=p[j]:=by rw[getD_eq_getD_getElem?,getElem?_eq_getElem T];rfl
   have g:=G.lt (k:=j) (by omega);have d:ks.getD (p.getD j 0) []∈ks:=by
    have h':p.getD j 0<ks.length:=by omega
    rw[vF,vU h'];exact getElem_mem h'
   have f:¬c8 (ks.getD (p.getD j 0) [])<c8 (ks.getD (p.getD i 0) []):=λz=>by
    have:=xr (cs:=ks.map c8) (uS ⟨_,d,rfl⟩) z;omega
   simp only[getElem_map,Array.getElem_toList];unfold Gf;rw[<-b,<-c];exact f
 rw[<-e,uP];rfl
@[simp] def xx (kd:LD->Option (List (List At)))(ok:List (List At)->Bool)(f:FE)(M:Env->D->Option D):FE:=λρ=>(f ρ).bind λx=>match x.1 with
 |.lst ds=>(jL (M ρ) ds).bind λG=>(kd G).bind λks=>if ks.length<64/\dn ks=true/\ok ks=true/\(ks.map c8).Nodup then some (.lst (j4 ks ds),true)else none
 |_=>none
@[simp] abbrev rj:FE->(Env->D->Option D)->FE:=xx dH dG
section
variable {X:Cx}{e ke:Expr}{p pos kp:Pos}
def Gs {kd:LD->Option (List (List At))}{ok:List (List At)->Bool}(M:KK X X.A.in1.in1 kd ok){f:FE}{t:Env->D->Option D}(hm:X.mg "sorted" = none)(he:JE X e f)(hk:JK X X.A.in1.in1 ke t)(P:Gl X "sorted":=by rfl)
  (R:starEach [e] X.env=[(false,eval e X.env)]:=by rfl) (S:backTo pos (starEach [e] X.env)=(false,eval e X.env)::backTo pos (starEach [] X.env):=by rfl) (O:(backTo pos (starEach [e] X.env)).any (·.1)=false:=by rfl)
  (V:(backToKw pos (keywordEach [⟨some "key",ke,kp⟩] X.env)).all (·.1.isSome)=true:=by rfl) (W:(backToKw pos (keywordEach [⟨some "key",ke,kp⟩] X.env)).any (·.1.isNone)=false:=by rfl)
  (Y:(backToKw pos (keywordEach [⟨some "key",ke,kp⟩] X.env)).filterMap (·.1)=[("key" : Str)]:=by rfl):
  JE X (.Call (.Name "sorted" p) [e] [⟨some "key",ke,kp⟩] pos) (xx kd ok f t):=by
 intro ah s σ H Q I h;obtain⟨B,ρ,d,b,Z,rep,G,q⟩:=h;obtain⟨⟨xd,xb⟩,ex,G⟩:=oX G;cases xd<;>try (cases G;done)
 rename_i ds;obtain⟨x,y,G⟩:=oX G;obtain⟨ks,ek,G⟩:=oX G;split at G
 ·rename_i hh;obtain⟨LC,hc,hf,nd⟩:=hh;cases G
  refine wpAny_Call_Name_kw (io I P hm (u:=.builtin "sorted") rfl ?_);refine callWith_kw (cA ((eI he gO R) pos ah s σ H (λvs c=>∃v N,vs=[v]/\Ext B N H c/\Is X.K N v (.lst ds)) I ⟨B,ρ,_,_,Z,rep,ex,λv c N T i1 _=>⟨v,N,rfl,T,i1⟩⟩) λus s1 hA=>?_) S O V W;obtain⟨XA,c,I1,r1,v,N,rfl,T,i1⟩:=hA;obtain⟨u,rfl,ru⟩:=iq r1;refine kws_cons (hk ah s1 σ c N ρ _ _ I1 T.nh (rep.mono T.bn) λj H2 s2 g m2 Il=>kws_nil ?_);rw[Y];show wpAny _ _ (call (.builtin "sorted") [u] [(("key" : Str),.ref j)]) _ _ _;cases i1
  rename_i l vs hq k;cases ru
  have z:aU N H2:=T.nh.trans m2;obtain⟨its,C,pl,hz⟩:=g.list (z.seq hq);have L7:vs.length=its.length:=C.length;have LA:ds.length=vs.length:=k.length.symm;have X2:x.length=ds.length:=kI y;have X3:ks.length=x.length:=M.len ek;have T8:its.length<64:=by omega
  refine call_function_entry_kw kind_sorted plain_sorted entry_sorted (ksk_s1 _ _) ?_;unfold Builtin.«sorted»;refine wX (m:=checkCount "sorted" 1 1 _) (wY (wX (collect_list pl.isList (wX (wpAny_newList ?_ (by rw[sizeLine_eq];omega))) (by rw[sizeLine_eq];omega))));let h1:Heap:=(s2.heap.push (seqObj "list" #[] 0)).update s2.z (Obj.mapSeq (· ++ its.toArray));have hsz:h1.objs.size=s2.z+1:=by show(Heap.update _ _ _).objs.size=_;rw[Heap.size_update,size_push']
  have U:∀b o,s2.heap.get? b=some o->h1.get? b=some o:=λb o q=>(Heap.get?_update_ne _ _ _ _ (vS (vX q))).trans (vZ _ q);have E:Inv X ((h1.objs.size,seqObj "list" its.toArray 0)::ah) σ H2 { s2 with heap:=h1.push (seqObj "list" its.toArray 0) } :=
   qj (t':=s2.toks) g (λb u q=>vZ _ (U b u q)) (by rw[hsz];exact le_succ _) (vY _ rfl) dA
  have p3:=E.pin (h1.objs.size,seqObj "list" its.toArray 0) (mY _ mX);show wpAny (model X.prog X.w) X.A.in1 (holding [.ref h1.objs.size] (call (.builtin "list.sort") [.ref h1.objs.size] [(("key" : Str),.ref j)])>>=_) _ _ { s2 with heap:=h1.push (seqObj "list" its.toArray 0) };refine wX (wpAny_holding (wpAny_call_entry_kw slot_list_sort ⟨_,p3.1,rfl⟩ entry_list_sort ?_ (ksk_l1 _ _)));show wpAny (model X.prog X.w) X.A.in1.in1 (Builtin.«list.sort» ⟨[.ref h1.objs.size],[(Str.ofString "key",.ref j)]⟩) _ _ _;rw[ksk_t1];refine Ba E (vR g.sz (by rw[hsz];exact le_succ _)) (λq hq=>by rw[hsz];exact vS (lt_succ_of_lt (vX (g.pin q hq).1))) Il C k z M y ek hc hf T8 λpm s' H' N' n F J a hn=>⟨_,rfl,wY ⟨_,rfl,?_⟩⟩;have O:its.length=ds.length:=by omega
  rw[O]at n F;have er:=Bb (by omega) hc (zh nd) n F;have Dx:∀i∈pm.toList,i<ds.length:=λi hi=>mem_range.mp (n.perm.mem_iff.mp hi);have r:=rg (k.mono a.bn) pm.toList Dx;rw[er]at r;have L:Ext B N' H H':=(T.trans (.grow T.nh m2)).trans a;have hN:N' h1.objs.size=none:=a.nh.free hn;have x5:=L.trans (Ext.laid (o:=.lst (pm.toList.map λi=>vs.getD i .non)) a.nh hn);exact⟨.ref h1.objs.size,_,J,rfl,q _ _ _ x5 (.lst (gN.of aB) (r.mono (Ext.laid (o:=.lst (pm.toList.map λi=>vs.getD i .non)) a.nh hn).bn)) λ_=>⟨_,_,_,rfl,rfl,L.hh.free hn,aB,r.mono (Ext.laid (o:=.lst (pm.toList.map λi=>vs.getD i .non)) a.nh hn).bn⟩⟩
 ·cases G
end
noncomputable def VD {f:String->CmpOp->Builtin}(_:f "__lt__" .Lt=Builtin.«tuple.__lt__»):=f
noncomputable def Ug:String->CmpOp->Builtin:=VD rfl
section
variable {prog:Program}{w:World}{A:Around}{E:QV}{s:Shared}{op:CmpOp}
def fM.type (h:fM s.heap xs v):s.TypeIs v "tuple":=by
 obtain⟨a,o,its,n,rfl,G,hc,_⟩:=h;exact⟨o,G,hc⟩
inductive GeW (prog:Program)(w:World)(A:Around)(s:Shared)(op:CmpOp)(iO r:Bool):List (Value×Value)->Prop
 |nil (h:iO=r):GeW prog w A s op iO r []
 |eq {u v:Value}{l:List (Value×Value)}(h:SeqAt.EqAt A s u v true) (t:GeW prog w A s op iO r l):GeW prog w A s op iO r ((u,v)::l)
 |ne {u v:Value}{l:List (Value×Value)}(h:SeqAt.EqAt A s u v false) (t:∀(Q E:Value->Shared->Prop),Q (.bool r) s->wpAny (model prog w) A (richCompare op u v) Q E s):GeW prog w A s op iO r ((u,v)::l)
def Jy {nm:String}(O:s.TypeIs (.ref b) "tuple")(T:s.heap.get? a=some oa)(U:oa.data=.seq its na)(c:s.heap.get? b=some ob)(d:ob.data=.seq BE nb)
  (W:GeW prog w A s op iO r (its.toList.zip BE.toList)) (hz:Builtin.Tuple.tupleCompareSizes op its.size BE.size=.bool iO) (e:op=.Lt\/op=.Gt\/op=.GtE) (q:P (.done (.ret (.bool r))) s):wpAny (model prog w) A (Ug nm op ⟨[.ref a,.ref b],[]⟩) P E s:=by
 show wpAny _ _ (isInstance (.ref _) (.type "tuple")>>=_) _ _ s;refine wX (wpAny_isInstance O isSubtype_tuple_tuple ?_);simp only[Bool.not_true,uV,if_false];refine wX (wpAny_tupleItemsOf T U ?_);refine wX (wpAny_tupleItemsOf c d ?_);refine wX ?_;refine wpAny_forIn_list _ (λax z s'=>z.1=none/\s'=s/\GeW prog w A s op iO r ax) _ ?_ ?_ _ _ ⟨rfl,rfl,W⟩
 ·rintro⟨u,v⟩ ax z s' ⟨hz,rfl,W⟩;cases W with
  |eq h t=>
   refine wX (h _ _ _ _ ?_);simp only[Bool.not_true,uV,if_false];exact wY ⟨rfl,rfl,t⟩
  |ne h t=>
   refine wX (h _ _ _ _ ?_);simp only[Bool.not_false,if_true];have t:=t (λv G=>v=.bool r/\G=s') E ⟨rfl,rfl⟩;rcases e with rfl|rfl|rfl<;>exact wX (wpAny_rule (wX (wpAny_mono t (λv G hv=>by obtain⟨rfl,rfl⟩:=hv;exact wX (wY (wY (wY q)))) λ_ _ z=>z)))
 ·rintro⟨f,g⟩ s' ⟨M,rfl,W⟩;simp only at M;subst M;refine wY ?_;cases W with
  |nil h=>
   show P (.done (.ret (Builtin.Tuple.tupleCompareSizes op its.size BE.size))) s';rw[hz,h];exact q
structure CmR (prog:Program)(w:World)(A:Around)(s:Shared)(op:CmpOp)(R:List At->List At->Bool->Prop)(fl:Nat->Nat->Bool):Prop where
 ei:∀ {a xs ys r},R (.i a::xs) (.i a::ys) r->R xs ys r
 es:∀ {a xs ys r},R (.s a::xs) (.s a::ys) r->R xs ys r
 ni:∀ {a c xs ys r},a≠c->R (.i a::xs) (.i c::ys) r->∀t u (Q E:Value->Shared->Prop),Q (.bool r) s->wpAny (model prog w) A (richCompare op (.int a t) (.int c u)) Q E s
 ns:∀ {a c xs ys r},a≠c->R (.s a::xs) (.s c::ys) r->∀t u (Q E:Value->Shared->Prop),Q (.bool r) s->wpAny (model prog w) A (richCompare op (.str a t) (.str c u)) Q E s
 mx:∀ {a c xs ys r},¬R (.i a::xs) (.s c::ys) r/\¬R (.s c::xs) (.i a::ys) r
 en:∀ {xs r},(R [] xs r->fl 0 xs.length=r)/\(R xs [] r->fl xs.length 0=r)
 fs:∀ {m n},fl (m+1) (n+1)=fl m n
def Gu (C:CmR prog w A s op R fl)(xs ys:List At)(its G:LU)(O:Paired Av xs its)(T:Paired Av ys G)(h:R xs ys r):GeW prog w A s op (fl xs.length ys.length) r (its.zip G):=by
 induction O generalizing ys G with
 |nil=>exact .nil (C.en.1 h)
 |@cons x v xs its O b U=>
  cases T with
  |nil=>exact .nil (C.en.2 h)
  |@cons y u ys G T M=>
   cases x with
   |i a=>
    cases y with
    |s _=>exact absurd h C.mx.1
    |i c=>
     obtain⟨t,rfl⟩:=O;obtain⟨u,rfl⟩:=T;have he:=SeqAt.EqAt.int_int (A:=A) (s:=s) a t c u;rw[zip_cons_cons,vE,vE,C.fs];by_cases e:a=c
     ·subst e;rw[show(a == a)=true by simp]at he;exact .eq he (U ys G M (C.ei h))
     ·rw[show(a == c)=false by simp[e]]at he;exact .ne he (C.ni e h t u)
   |s a=>
    cases y with
    |i _=>exact absurd h C.mx.2
    |s c=>
     obtain⟨t,rfl⟩:=O;obtain⟨u,rfl⟩:=T;have he:=SeqAt.EqAt.str_str (A:=A) (s:=s) a t c u;rw[zip_cons_cons,vE,vE,C.fs];by_cases e:a=c
     ·subst e;rw[show(a == a)=true by simp]at he;exact .eq he (U ys G M (C.es h))
     ·rw[show(a == c)=false by simp[e]]at he;exact .ne he (C.ns e h t u)
def Pz:CmR prog w A s .Lt (λxs ys r=>bu xs ys=some r) (λm n=>decide (m<n)) where
 ei h:=by rwa [bu,if_pos rfl]at h
 es h:=by rwa [bu,if_pos rfl]at h
 ni e h _ _ _ _ q:=by rw[bu,if_neg e]at h;cases h;exact PyProof.Rows.lt_int q
 ns e h _ _ _ _ q:=by rw[bu,if_neg e]at h;cases h;exact PySem.P.lt_str q
 mx:=by simp[bu]
 en:=λ{xs}=>by cases xs<;>simp[bu]
 fs:=by simp
def P0:CmR prog w A s .Gt (λxs ys r=>bu ys xs=some r) (λm n=>decide (n<m)) where
 ei h:=by rwa [bu,if_pos rfl]at h
 es h:=by rwa [bu,if_pos rfl]at h
 ni e h _ _ _ _ q:=by rw[bu,if_neg (Ne.symm e)]at h;cases h;exact PyProof.Rows.gt_int q
 ns e h _ _ _ _ q:=by rw[bu,if_neg (Ne.symm e)]at h;cases h;exact PySem.P.gt_str q
 mx:=by simp[bu]
 en:=λ{xs}=>by cases xs<;>simp[bu]
 fs:=by simp
def Gw (hx:fM s.heap xs (.ref a)):∃o its n,s.heap.get? a=some o/\o.data=.seq its n/\Paired Av xs its.toList/\xs.length=its.size:=by
 obtain⟨M,o,its,n,e,G,hc,hd,p⟩:=hx;cases e
 exact⟨o,its,n,G,hd,p,by rw[<-vG];exact fD p⟩
def Lr {nm:String}(C:CmR prog w A s op R fl)(hz:∀m n,Builtin.Tuple.tupleCompareSizes op m n=.bool (fl m n))(G:op=.Lt\/op=.Gt\/op=.GtE)(hx:fM s.heap xs (.ref a))(hy:fM s.heap ys (.ref b))(h:R xs ys r)(q:P (.done (.ret (.bool r))) s):wpAny (model prog w) A (Ug nm op ⟨[.ref a,.ref b],[]⟩) P E s:=by
 have hb:=hy.type;obtain⟨_,_,_,T,hd,p,l1⟩:=Gw hx;obtain⟨_,_,_,M,O,U,l2⟩:=Gw hy;exact Jy hb T hd M O (Gu C _ _ _ _ p U h) (by rw[l1,l2];exact hz _ _) G q
def Gx (hx:fM s.heap xs x)(hy:fM s.heap ys y)(h:bu xs ys=some r)(hu:A.units<cLine)(q:Q (.bool r) s):wpAny (model prog w) A (richCompare .Lt x y) Q E s:=by
 have G:=hx.type;have ty:=hy.type;obtain⟨a,_,_,_,rfl,_⟩:=id hx;obtain⟨b,_,_,_,rfl,_⟩:=id hy;exact wpAny_richCompare_same_room (op:=.Lt) G ty slot_tuple_lt (wpAny_call_entry slot_tuple_lt G PySem.F.entry_tuple_lt (Lr Pz (λ_ _=>rfl) (.inl rfl) hx hy h ⟨_,rfl,(λe=>nomatch e),q⟩) (PySem.F.args_tuple_lt_2 _ _)) hu
def P1 (hx:fM s.heap xs x)(hy:fM s.heap ys y)(h:bu ys xs=some r)(hu:A.units<cLine)(q:Q (.bool r) s):wpAny (model prog w) A (richCompare .Gt x y) Q E s:=by
 have G:=hx.type;have ty:=hy.type;obtain⟨a,_,_,_,rfl,_⟩:=id hx;obtain⟨b,_,_,_,rfl,_⟩:=id hy;exact wpAny_richCompare_same_room (op:=.Gt) G ty slot_tuple_gt (wpAny_call_entry slot_tuple_gt G PySem.F.entry_tuple_gt (Lr P0 (λ_ _=>rfl) (.inr (.inl rfl)) hx hy h ⟨_,rfl,(λe=>nomatch e),q⟩) (PySem.F.args_tuple_gt_2 _ _)) hu
end
def np:List At×D->List (List At×D)->D
 |b,[]=>b.2
 |b,x::r=>if bu b.1 x.1=some true then np x r else np b r
def rm:List At×D->List (List At×D)->D
 |b,[]=>b.2
 |b,x::r=>if bu x.1 b.1=some true then rm x r else rm b r
noncomputable def VE {f:String->CmpOp->Builtin}(_:f "max" .Gt=Builtin.«max.loop»):=f
noncomputable def VF:String->CmpOp->Builtin:=VE rfl
noncomputable def VG {f:String->Builtin}(_:f "max" = Builtin.«max»):=f
noncomputable def VH:String->Builtin:=VG rfl
structure MM (nm lp:String)(ns:Str)(op:CmpOp)(lt:List At->List At->Option Bool)(go:List At×D->List (List At×D)->D):Prop where
 hn:(toString nm++toString ".loop" : String)=lp
 en:entryFor table lp=some (VF nm op)
 pl:plainId lp=true
 k2:builtinKind nm=none
 p2:plainId nm=true
 e2:entryFor table nm=some (VH nm)
 ka:∀a v:Value,argsOk nm ⟨[a],[(Str.ofString "key",v)]⟩
 bt:bootBuiltins ns=some (.builtin nm)
 n1:ns ≠ "__name__"
 n2:(ns == ("__debug__" : Str))=false
 g0:∀b,go b []=b.2
 g1:∀b x r,go b (x::r)=if lt b.1 x.1=some true then go x r else go b r
 cg:∀ {ks:List (List At)},dn ks=true->∀ {a b},a∈ks->b∈ks->∃r,lt a b=some r
 rc:∀ {prog:Program}{w:World}{A:Around}{E:Value->Shared->Prop}{s:Shared}{xs ys:List At}{x y:Value}{r:Bool}{Q:Value->Shared->Prop},fM s.heap xs x->fM s.heap ys y->lt ys xs=some r->A.units<cLine->Q (.bool r) s->wpAny (model prog w) A (richCompare op x y) Q E s
def Uh:MM "max" "max.loop" "max" .Gt bu np :=
 ⟨by decide,PySem.F.entry_max_loop,PySem.F.plain_max_loop,PySem.F.kind_max,PySem.F.plain_max,PySem.F.entry_max,λ_ _=>by unfold argsOk;kernel_rfl,rfl,by decide,by decide,λ_=>rfl,λ_ _ _=>rfl,λh _ _ a b=>⟨_,ig h a b⟩,P1⟩
def Ui:MM "min" "min.loop" "min" .Lt (λa b=>bu b a) rm :=
 ⟨by decide,PySem.F.entry_min_loop,PySem.F.plain_min_loop,PySem.F.kind_min,PySem.F.plain_min,PySem.F.entry_min,λ_ _=>by unfold argsOk;kernel_rfl,rfl,by decide,by decide,λ_=>rfl,λ_ _ _=>rfl,λh _ _ a b=>⟨_,ig h b a⟩,Gx⟩
section
variable {X:Cx}{ah:AO}{σ:St}
def Bc (J:Inv X ((G,M)::(O,T)::ah) σ H' s'):Inv X ((O,T)::(G,M)::ah) σ H' s' :=
 J.pins_of λq hq=>J.pin q (by
  rcases vP hq with rfl|hq
  ·exact mY _ (mZ _ mX)
  ·rcases vP hq with rfl|hq
   ·exact mY _ mX
   ·exact mY _ (mZ _ (mZ _ hq)))
def ro (hp:∀q∈X.pn++ah,q.1≠a)(h:S≠a):∀q∈X.pn++((S,o)::ah),q.1≠a:=λq hq=>by
 rcases mem_append.mp hq with hq|hq
 ·exact hp q (mem_append_left _ hq)
 ·rcases vP hq with rfl|hq
  ·exact h
  ·exact hp q (mY _ hq)
def ql (I:Inv X ah σ H s)(r:bf v u)(i:Is X.K H v d)(e:ng d=some k):fM s.heap k u:=by
 have:=nn I (ys:=[v]) (ds:=[d]) (ks:=[k]) (its:=[u]) (.cons r .nil) (.cons i .nil) (by simp only[dH,e];rfl);cases this;assumption
inductive MK (X:Cx)(ah:List (Addr×Obj))(σ:St)(S It l:Addr)(o:Obj)(j:Nat)(N H:Hp)(y:List At×D)(u ku:Value)(s:Shared):Prop
 |mk (H2 N2:Hp) (v kv:V) (kd:D) (oI:Obj) (J:Inv X ((S,o)::(It,oI)::ah) σ H2 s) (tH:s.heap.IsListIter It l (j+1)) (x:Ext N N2 H H2) (ru:bf v u) (iv:Is X.K N2 v y.2) (rk:bf kv ku) (ik:Is X.K N2 kv kd) (ek:ng kd=some y.1)
def Gy {E:QV}{It:Addr}(hh:X.A.handled=none)(g:Cv X X.A.in1 σ (.ref qa) B H1 kf)(hq:gN X.K B l vs)(iv:IsL X.K B vs ds)(h:jL kf ds=some jD)(ek:dH jD=some ks)(k:X.s₀.z<=It)(m:∀q∈X.pn++((S,o)::ah),q.1≠It)
  (p:l≠It) (hz:(ks.zip ds)[j]? = some y) (I:Inv X ((S,o)::(It,oI)::ah) σ H s) (tH:s.heap.IsListIter It l j) (G:Ext B N H1 H):
  wpAny (model X.prog X.w) X.A.in1 (pyNext (.ref It)) (λr s1=>∃u,r=some u/\wpAny (model X.prog X.w) X.A.in1 (call (.ref qa) [u]) (MK X ah σ S It l o j N H y u) (λ_ _=>False) s1) E s:=by
 obtain⟨its,t,pl,_⟩:=I.list ((G.bn.trans G.nh).seq hq);obtain⟨hk,hd⟩:=getElem?_zip_eq_some.mp hz;obtain⟨v,hv,O⟩:=iv.get hd;obtain⟨kd,T,x⟩:=ri h hd;obtain⟨u,hu,ru⟩:=t.get hv;have C:ng kd=some y.1:=by
  have:=j0 ek (i:=j) (vV T).1;rw[vF,T,vF,hk]at this;exact this
 refine(Walks.list (prog:=X.prog) (w:=X.w) (A:=X.A.in1) hh It l p its.toArray).item j _ _ _ (by simpa using(vV hu).1) ⟨tH,pl.isList⟩ λD h' F J U L=>?_;have a:its[j]? = some D:=by simpa using J
 rw[hu]at a;cases a;obtain⟨M,P,Q,c⟩:=id U.1;exact⟨u,rfl,cA (g _ _ H N v u y.2 kd (Bc (iA (t':=F) (Bc I) k m (λb o n e=>L b o (by simpa using n) e) P (λv z=>by rw[c]at z;cases z))) G.hh G.bn G.nh (O.mono G.bn) ru x) λku s2 ⟨kv,H2,d,rk,N2,f,ik⟩=>
  ⟨H2,N2,v,kv,kd,M,d,⟨M,(d.pin (It,M) (mY _ (mZ _ mX))).1,Q,c⟩,f,ru,O.mono (G.bn.trans f.bn),rk,ik,C⟩⟩
def Jz {nm lp:String}{ns:Str}{op:CmpOp}{lt:List At->List At->Option Bool}{go:List At×D->List (List At×D)->D}(M:MM nm lp ns op lt go){C:Value}{l S It:Addr}{vs:LV}{ds Z:LD}{ks:List (List At)}{B E:Hp}{kf:D->Option D}{d0:D}{R:Result->Shared->Prop}(hh:X.A.handled=none)(hu:X.A.in1.units<cLine)(Il:Cv X X.A.in1 σ C B E kf)(XD:∃a,C=.ref a)(hq:gN X.K B l vs)(iv:IsL X.K B vs ds)
  (F:jL kf ds=some Z) (ek:dH Z=some ks) (hc:dn ks=true) (S0:X.s₀.z<=S) (I0:X.s₀.z<=It) (QJ:∀q∈X.pn++ah,q.1≠S) (NR:∀q∈X.pn++ah,q.1≠It) (p:S≠It) (NT:S≠l) (NS:l≠It)
  (hR:∀(s':Shared)(H' N:Hp)(v:V)(u:Value),Inv X ah σ H' s'->Ext B N E H'->bf v u->Is X.K N v d0->R (.ok (.ret u)) s'):
  ∀(r j:Nat)(s:Shared)(H N:Hp)(O G:Value)(h T:V)(i U:D)(k:List At)(c:Nat)(oI:Obj),vs.length - j=r->j<=vs.length->Inv X ((S,seqObj "list" #[O,G] c)::(It,oI)::ah) σ H s->s.heap.IsListIter It l j->Ext B N E H ->
   bf h O->Is X.K N h i->bf T G->Is X.K N T U->ng U=some k->k∈ks->go (k,i) ((ks.zip ds).drop j)=d0 ->
   codeAny (model X.prog X.w) X.A (.builtin lp ⟨[.ref It,C,.ref S],[]⟩) R s:=by
 obtain⟨qa,rfl⟩:=XD;intro r;induction r with
 |zero=>
  intro j s H N O G h T i U k c oI hr hj I tH d J i1 L i2 f mk hd;have P:=I.pin (S,seqObj "list" #[O,G] c) (mY _ mX);have sB:aU B H:=d.bn.trans d.nh;obtain⟨its,rv,pl,_⟩:=I.list (sB.seq hq);have hl:=pl.isList;have W:=Walks.list (prog:=X.prog) (w:=X.w) (A:=X.A.in1) hh It l NS its.toArray;have hsz:its.toArray.size=its.length:=vH ..;have L7:vs.length=its.length:=rv.length;have LA:ds.length=its.length:=by rw[<-iv.length];exact rv.length
  have Tq:ks.length=ds.length:=by rw[gn ek,kI F]
  have Tz:i=d0:=by
   rw[List.drop_of_length_le (by rw[length_zip];omega)]at hd;rw[M.g0]at hd;exact hd
  subst Tz;refine codeAny_builtin M.en ?_;rw[Around.under_plainId M.pl _];show wpAny _ X.A.in1 (seqItems? (.ref S)>>=_) _ _ _;refine wX (wpAny_seqItems P.1 rfl ?_);show wpAny _ X.A.in1 (tryCatch (pyNext (.ref It)) _>>=_) _ _ _;refine wX (wpAny_tryCatch (W.done _ _ _ ⟨by rw[hsz,show its.length=j by omega];exact tH,hl⟩ λh' Q LB=>?_));have t:Inv X ((It,oI)::(S,seqObj "list" #[O,G] c)::ah) σ H s:=Bc I;have TB:∀q∈X.pn++((S,seqObj "list" #[O,G] c)::ah),q.1≠It:=ro NR p;have J2:Inv X ((S,seqObj "list" #[O,G] c)::ah) σ H { s with heap:=h',toks:=Q } :=
   (kH t).turned (t':=Q) (λb o n e=>LB b o (by simpa using n) e) (t.pin (It,oI) (mY _ mX)).2.1 (t.pin (It,oI) (mY _ mX)).2.2.1 (.inr I0) (o9 t) TB
  have Vo:=J2.pin (S,seqObj "list" #[O,G] c) (mY _ mX);obtain⟨c2,Ov⟩:∃c2,(h'.update S (Obj.mapSeq λ_=>(#[]:AV))).get? S=some (seqObj "list" #[] c2):=⟨_,get?_update_seq Vo.1 λ_=>#[]⟩;have x:=vW h' S (Obj.mapSeq λ_=>(#[]:AV));show wpAny _ X.A.in1 (updateSeq S (λ_=>#[])>>=_) _ _ _;refine wX ?_;refine wpAny_updateSeq Vo.1 rfl (wX (wpAny_letGo (wY ?_)));exact hR _ H N h O (kH (iA (t':=Q) J2 S0 QJ (λb o n e=>(x.2 b n).trans e) Ov dA)) d J i1
 |succ r ih=>
  intro j s H N O G h T i U k c oI hr hj I tH d J i1 L i2 f mk hd;have ya:j<(ks.zip ds).length:=by rw[length_zip,gn ek,kI F,<-iv.length];omega
  have P:=I.pin (S,seqObj "list" #[O,G] c) (mY _ mX);have hz:=vU ya;rw[List.drop_eq_getElem_cons ya,M.g1]at hd;generalize (ks.zip ds)[j]=y at hz hd;have hm:y.1∈ks:=vL (getElem?_zip_eq_some.mp hz).1;obtain⟨r,Y⟩:=M.cg hc mk hm;refine codeAny_builtin M.en ?_;rw[Around.under_plainId M.pl _];show wpAny _ X.A.in1 (seqItems? (.ref S)>>=_) _ _ _;refine wX (wpAny_seqItems P.1 rfl ?_);show wpAny _ X.A.in1 (tryCatch (pyNext (.ref It)) _>>=_) _ _ _;refine wX (wpAny_tryCatch (cA (Gy hh Il hq iv F ek I0 (ro NR p) NS hz I tH d) λ_ s1 ⟨u,e,h1⟩=>?_));subst e;show wpAny _ X.A.in1 (tryCatch (holding [u] (call (.ref qa) [u])) _>>=_) _ _ _;refine wX (wpAny_tryCatch (wpAny_holding (wpAny_mono h1 (λku s2 ⟨H2,N2,v,kv,kd,Ry,m,QK,g,ru,QG,rk,ik,Ow⟩=>?_) λ_ _ z=>z.elim)));have t1:=ql m rk (ik.mono g.nh) Ow;have t2:=ql m L (i2.mono (g.bn.trans g.nh)) f;show wpAny _ X.A.in1 (tryCatch (holding [u,ku] (richCompare op ku G>>=_)) _>>=_) _ _ _;refine wX (wpAny_tryCatch (wpAny_holding (wX (M.rc t1 t2 Y hu ?_))));refine wX (wpAny_holding (wpAny_truthy_bool ?_));refine wX (wpAny_letGo (wY ?_));cases r with
  |true=>
   rw[if_pos Y]at hd;have x:=vW s2.heap S (Obj.mapSeq λ_=>#[u,ku]);simp only[if_true];have QL:=m.pin (S,seqObj "list" #[O,G] c) (mY _ mX);refine wX (wpAny_updateSeq QL.1 rfl (wX (wpAny_letGo ?_)));rw[M.hn];obtain⟨o,g1,g2⟩:=QK;exact wY ⟨plainId_quiet M.pl _,ih (j+1) _ H2 N2 u ku v kv y.2 kd y.1 _ Ry (by omega) (by omega) (iA (t':=s2.toks) m S0 (ro QJ p.symm) (λb o n e=>(x.2 b n).trans e) (get?_update_seq QL.1 λ_=>#[u,ku]) dA) ⟨o,(x.2 It p.symm).trans g1,g2⟩ (d.trans g) ru QG rk ik Ow hm hd⟩
  |false=>
   rw[if_neg (by rw[Y];simp)]at hd;simp only[uV,if_false];refine wX (wpAny_letGo ?_);rw[M.hn];exact wY ⟨plainId_quiet M.pl _,ih (j+1) _ H2 N2 O G h T i U k c Ry (by omega) (by omega) m QK (d.trans g) J (i1.mono g.bn) L (i2.mono g.bn) f mk hd⟩
end
@[simp] def Ol (go:List At×D->List (List At×D)->D)(f:FE)(M:Env->D->Option D):FE:=λρ=>(f ρ).bind λx=>match x.1 with
 |.lst ds=>(jL (M ρ) ds).bind λG=>(dH G).bind λks=>if dn ks=true then match ks.zip ds with
  |[]=>none
  |y::r=>some (go y r,false)
  else none
 |_=>none
@[simp] def uL:=Ol np
@[simp] def Cy:=Ol rm
section
variable {X:Cx}{e ke:Expr}{p pos kp:Pos}
def Cz {nm lp:String}{ns:Str}{op:CmpOp}{lt:List At->List At->Option Bool}{go:List At×D->List (List At×D)->D}(M:MM nm lp ns op lt go){f:FE}{r:Env->D->Option D}{k:Nat}(hm:X.mg ns=none)(he:JE X e f)(hk:JK X X.A.in1 ke r)(t:eV k X.A)(hg:Gl X ns:=by rfl)
  (T4:starEach [e] X.env=[(false,eval e X.env)]:=by rfl) (T5:backTo pos (starEach [e] X.env)=(false,eval e X.env)::backTo pos (starEach [] X.env):=by rfl) (HX:(backTo pos (starEach [e] X.env)).any (·.1)=false:=by rfl)
  (HZ:(backToKw pos (keywordEach [⟨some "key",ke,kp⟩] X.env)).all (·.1.isSome)=true:=by rfl) (T6:(backToKw pos (keywordEach [⟨some "key",ke,kp⟩] X.env)).any (·.1.isNone)=false:=by rfl)
  (T7:(backToKw pos (keywordEach [⟨some "key",ke,kp⟩] X.env)).filterMap (·.1)=[("key" : Str)]:=by rfl):
  JE X (.Call (.Name ns p) [e] [⟨some "key",ke,kp⟩] pos) (Ol go f r):=by
 intro ah s σ H Q I h;obtain⟨B,ρ,d,b,sB,rep,G,q⟩:=h;obtain⟨⟨xd,xb⟩,ex,G⟩:=oX G;cases xd<;>try (cases G;done)
 rename_i ds;obtain⟨jD,w,G⟩:=oX G;obtain⟨ks,ek,G⟩:=oX G;split at G
 ·rename_i hc;split at G
  ·cases G
  ·rename_i y ax i;cases G
   refine wpAny_Call_Name_kw (io I hg hm M.bt ?_ M.n1 M.n2);refine callWith_kw (cA ((eI he gO T4) pos ah s σ H (λvs c=>∃v N,vs=[v]/\Ext B N H c/\Is X.K N v (.lst ds)) I ⟨B,ρ,_,_,sB,rep,ex,λv c N T i1 _=>⟨v,N,rfl,T,i1⟩⟩) λus s1 hA=>?_) T5 HX HZ T6;obtain⟨XA,c,I1,r1,v,N,rfl,T,i1⟩:=hA;obtain⟨u,rfl,ru⟩:=iq r1;refine kws_cons (hk ah s1 σ c N ρ _ _ I1 T.nh (rep.mono T.bn) λU H2 s2 a m2 x=>kws_nil ?_);rw[T7];show wpAny _ _ (call (.builtin nm) [u] [(("key" : Str),.ref U)]) _ _ _;cases i1
   rename_i l vs hq j;cases ru
   have C:aU N H2:=T.nh.trans m2;obtain⟨its,rv,pl,hz⟩:=a.list (C.seq hq);have E:l<s2.z:=by
    obtain⟨ol,Rw,_⟩:=pl.isList;exact vX Rw
   have F:(ks.zip ds)[0]? = some y:=by rw[i];rfl
   have XE:=vL (getElem?_zip_eq_some.mp F).1;refine kmk_tree M.k2 M.p2 M.e2 (M.ka _ _) ?_;show wpAny _ X.A.in1 (Builtin.Builtins.bindParams nm ["key","default"] 0 ⟨[],[(Str.ofString "key",.ref U)]⟩>>=_) _ _ s2;refine wX (wpAny_of_eq (show Builtin.Builtins.bindParams nm ["key","default"] 0 ⟨[],[(Str.ofString "key",.ref U)]⟩=pure [some (.ref U),none]from rfl) ?_);refine wX (wY ?_);refine wX (wpAny_pyIter_list pl.isList ?_);refine wX (wpAny_newList ?_ (uN _));rw[M.hn];let It:Addr:=s2.z;let oI:Obj:={ cls:=.type "list_iterator",data:=.fields #[.ref l,.int 0 0] };let S:Addr:=(s2.heap.push oI).objs.size;have g:S=s2.z+1:=size_push' ..;have O:S≠It:=by rw[g];exact ne_of_gt (lt_succ_self _)
   have J1:Inv X ((It,oI)::ah) σ H2 { s2 with heap:=s2.heap.push oI }:=qj (t':=s2.toks) a (λb u q=>vZ _ q) (vT _) (vY _ rfl) (λv z=>by cases z);have m:Inv X ((S,seqObj "list" #[] 0)::(It,oI)::ah) σ H2 { s2 with heap:=(s2.heap.push oI).push (seqObj "list" #[] 0) }:=qj (s:={ s2 with heap:=s2.heap.push oI }) (t':=s2.toks) J1 (λb u q=>vZ _ q) (vT _) (vY _ rfl) dA;have J:X.s₀.z<=It:=a.sz;have L:X.s₀.z<=S:=by rw[g];exact Nat.le_succ_of_le a.sz
   have P:∀q∈X.pn++ah,q.1≠It:=λq hq=>vS (vX (a.pin q hq).1);have R:∀q∈X.pn++ah,q.1≠S:=λq hq=>by rw[g];exact vS (lt_succ_of_lt (vX (a.pin q hq).1))
   have V:l≠It:=vS E;have NT:S≠l:=by rw[g];exact ne_of_gt (lt_succ_of_lt E)
   have hh:X.A.handled=none:=t.hd;have hu:X.A.in1.units<cLine:=by have:=t.un;show X.A.units+1<cLine;omega
   have pS:=m.pin (S,seqObj "list" #[] 0) (mY _ mX);have pI:=m.pin (It,oI) (mY _ (mZ _ mX));refine wY ⟨plainId_quiet M.pl _,?_⟩;refine codeAny_builtin M.en ?_;rw[Around.under_plainId M.pl _];show wpAny _ X.A.in1 (seqItems? (.ref S)>>=_) _ _ { s2 with heap:=(s2.heap.push oI).push (seqObj "list" #[] 0) };refine wX (wpAny_seqItems pS.1 rfl ?_);show wpAny _ X.A.in1 (tryCatch (pyNext (.ref It)) _>>=_) _ _ _;refine wX (wpAny_tryCatch (cA (Gy hh x hq j w ek J (ro P O) V F m ⟨oI,pI.1,rfl,rfl⟩ (.refl C)) λ_ s1 ⟨u,e,h1⟩=>?_));subst e;show wpAny _ X.A.in1 (tryCatch (holding [u] (call (.ref U) [u])) _>>=_) _ _ _;refine wX (wpAny_tryCatch (wpAny_holding (wpAny_mono h1 (λku W ⟨H3,N3,v,kv,kd,Ry,Y,⟨o,g1,g2⟩,x3,ru,QG,rk,ik,Ow⟩=>?_) λ_ _ z=>z.elim)));have Z:=Y.pin (S,seqObj "list" #[] 0) (mY _ mX);have u2:=vW W.heap S (Obj.mapSeq λ_=>#[u,ku]);show wpAny _ X.A.in1 (updateSeq S (λ_=>#[u,ku])>>=_) _ _ _;refine wX (wpAny_updateSeq Z.1 rfl ?_);rw[M.hn];have TD:1<=vs.length:=by
    have:=congrArg List.length i;rw[length_zip,vE,<-j.length]at this;omega
   exact wY ⟨plainId_quiet M.pl _,Jz M (S:=S) (It:=It) hh hu x ⟨U,rfl⟩ hq j w ek hc L J R P O NT V (λs' H' N' v' u' J' x' r' i'=>⟨v',H',J',r',q _ _ _ ((T.trans (.grow T.nh m2)).trans x') i' (by simp)⟩) _ 1 _ H3 N3 u ku v kv y.2 kd y.1 _ Ry rfl TD
    (iA (t':=W.toks) Y L (ro R O.symm) (λb o n e=>(u2.2 b n).trans e) (get?_update_seq Z.1 λ_=>#[u,ku]) dA) ⟨o,(u2.2 It O.symm).trans g1,g2⟩ x3 ru QG rk ik Ow XE (by rw[i];rfl)⟩
 ·cases G
end
section
variable {X:Cx}
@[simp] def LP:D->D->OB
 |.tup xs,.tup ys=>(fT xs).bind λG=>(fT ys).bind λbs=>(bu G bs).map λr=>(.bl r,false)
 |_,_=>none
def P2 (hu:X.A.units+40<cLine):dI X (compareOp .Lt) (rD X.K LP):=by
 intro ah s σ H x y v u Q I M O q;obtain⟨B,dx,T,d,b,G,U,a,e,q⟩:=q;cases dx<;>try (simp[LP]at e;done)
 cases T<;>try (simp[LP]at e;done)
 simp only[LP]at e;obtain⟨g,c,e⟩:=oX e;obtain⟨bs,e2,e⟩:=oX e;obtain⟨r,f,e⟩:=oY e;cases e
 show wpAny _ _ (richCompare .Lt v u) _ _ _;exact Gx (ql I M (U.mono G) c) (ql I O (a.mono G) e2) f (by omega) ⟨.bl r,H,I,rfl,q.one G (.bl r)⟩
end
end DL
namespace DL
open PySem PySem.Spec PyProof.Rows L2
section
variable {X:Cx}
noncomputable def uM:D->D->OB
 |.tup xs,.tup ys=>if xs.isEmpty=true then some (.tup ys,false)else none
 |_,_=>none
def J0:dI X (binaryOp .Add) (rD X.K uM):=by
 intro ah s σ H x y v u Q I i j q;obtain⟨B,dx,A,d,bb,c,k,m,G,q⟩:=q;cases k<;>try (cases G;done)
 cases m<;>try (cases G;done)
 rename_i l vs ds h hl e C es h' o;simp only[uM]at G;split at G
 ·rename_i hz;cases G
  cases i
  cases j
  obtain⟨its,p,r,_⟩:=I.tuple (b7 c h);obtain⟨M,D,p2,_⟩:=I.tuple (b7 c h');have he:its.toArray.isEmpty=true:=by
   have f:=hl.length;have e2:=p.length;have t:=List.isEmpty_iff.mp hz;rw[t]at f;cases its with
   |nil=>rfl
   |cons a b=>rw[f]at e2;simp at e2
  obtain⟨⟨cls,dd,data,sl⟩,g,hc,n,hd⟩:=id r;obtain⟨⟨E,w,data2,z⟩,O,T,n2,U⟩:=id p2;dsimp only at hc hd T U;subst hc;subst hd;subst T;subst U;exact concat_meets ⟨_,g,rfl⟩ ⟨_,O,rfl⟩ noFill_tuple_add seq_tuple_add slot_tuple_add entry_tuple_add (args_tuple_add_2 _ _)
   (tuple_addW0 l e its.toArray M.toArray n n2 dd w sl z he) ⟨g,O,⟨.ref e,H,I,rfl,q.one c (.tup h' o)⟩⟩
 ·cases G
@[simp] noncomputable def C0:D->D->OB
 |.tup xs,.tup ys=>if xs.length+ys.length<=sizeLine then some (.tup (xs++ys),false)else none
 |_,_=>none
def J5 (xs ys:LD)(z:xs.length+ys.length<=sizeLine):EN tQ uM (.tup xs) (.tup ys)=some (.tup (xs++ys),false):=by
 cases xs with
 |nil=>
  have:tQ (.tup []) (.tup ys)=none:=if_neg (λh=>by cases h.2);show(match tQ (.tup []) (.tup ys) with|some z=>some z|none=>uM (.tup []) (.tup ys))=_;rw[this];rfl
 |cons a l=>
  have:tQ (.tup (a::l)) (.tup ys)=some (.tup (a::l++ys),false):=if_pos ⟨z,rfl⟩;show(match tQ (.tup (a::l)) (.tup ys) with|some z=>some z|none=>uM (.tup (a::l)) (.tup ys))=_;rw[this]
def Gz:dI X (binaryOp .Add) (rD X.K C0):=by
 refine jg (r:=rD X.K (EN tQ uM)) (oj FL J0) λx y H Q q=>?_;obtain⟨B,dx,T,d,bb,U,M,O,G,q⟩:=q;refine⟨B,dx,T,d,bb,U,M,O,?_,q⟩;cases M<;>try (cases G;done)
 cases O<;>try (cases G;done)
 rename_i l vs ds h hl a b es h' c;simp only[C0]at G;split at G
 ·rename_i hz;rw[J5 _ _ hz];exact G
 ·cases G
end
section
variable {X:Cx}
@[simp] def nq:LD->OB
 |[d,.tup [.ty n,.ty m]]=>if AG d=true then none else if n = "list"/\m = "tuple" then some (.bl (i6 d == "list" || i6 d == "tuple"),false)else none
 |_=>none
def Ed (K:Frag)(d:D)(hd:∀n,d≠.ty n):PySem.W.kitAny K (.type (i6 d)) [.type "list",.type "tuple"]=some (i6 d == "list" || i6 d == "tuple"):=by
 obtain⟨_,_,_,k4,k5⟩:=FI K d hd;unfold PySem.W.kitAny;rw[k4];cases i6 d == "list" with
 |true=>rfl
 |false=>
  unfold PySem.W.kitAny;rw[k5];cases i6 d == "tuple" with
  |true=>rfl
  |false=>rfl
def G0 (I:Inv X ah σ H s)(i:Is X.K H v d)(hd:∀n,d≠.ty n)(G:bf v u)(T:IsTup s.heap tp its.toArray)(e:PySem.W.kitAny X.K (.type (i6 d)) its=some b)(h:∀tk,Q (.bool b) { s with toks:=tk }):
  wpAny (model X.prog X.w) A (call (.builtin "isinstance") [u,.ref tp]) Q E s:=by
 obtain⟨⟨cls,dd,data,sl⟩,M,hc,n,O⟩:=id T;dsimp only at hc O;subst hc;subst O;cases i with
 |non=>cases (show u=Value.none from G);exact PySem.W.kia_tup PySem.W.kitx_none I.kIn True.intro M e (λz=>nomatch z) h
 |bl y=>cases (show u=Value.bool y from G);exact PySem.W.kia_tup PySem.W.kitx_bool I.kIn True.intro M e (λz=>nomatch z) h
 |int i=>obtain⟨t,q⟩:=(show ∃t,u=Value.int i t from G);cases q;exact PySem.W.kia_tup PySem.W.kitx_int I.kIn True.intro M e (λz=>nomatch z) h
 |str y=>obtain⟨t,q⟩:=(show ∃t,u=Value.str y t from G);cases q;exact PySem.W.kia_tup PySem.W.kitx_str I.kIn True.intro M e (λz=>nomatch z) h
 |ty n=>exact absurd rfl (hd n)
 |dk h1 _ _=>
  cases G
  obtain⟨_,_,_,vs,_,o,es,a,U,e2,_⟩:=(show bI X.prog X.w H s.heap _ (.dK _ _)from I.hok _ _ h1);exact PySem.W.kia_tup PySem.W.kitx_dict I.kIn ⟨o,U,e2.1⟩ M e (λz=>nomatch z) h
 |dt h1 _ _=>
  cases G
  obtain⟨_,_,xs,_,o,es,a,U,e2,_⟩:=(show bI X.prog X.w H s.heap _ (.dT _)from I.hok _ _ h1);exact PySem.W.kia_tup PySem.W.kitx_dict I.kIn ⟨o,U,e2.1⟩ M e (λz=>nomatch z) h
 |tup T _=>
  cases G
  obtain⟨its,_,⟨o,h1,h2,_⟩,_⟩:=I.tuple T;exact PySem.W.kia_tup PySem.W.kitx_tuple I.kIn ⟨o,h1,h2⟩ M e (λz=>nomatch z) h
 |lst hl _=>
  cases G
  obtain⟨its,_,⟨o,n,h1,h2,_⟩,_⟩:=I.list hl;exact PySem.W.kia_tup PySem.W.kitx_list I.kIn ⟨o,h1,h2⟩ M e (λz=>nomatch z) h
def Ee:cr X (.builtin "isinstance") (BQ X.K nq):=by
 intro ah s σ H xs us Q I T q;obtain⟨B,ds,d,b,G,i,e,q⟩:=q;cases i with
 |nil=>cases e
 |@cons _ dx _ _ i1 i=>
  cases i with
  |nil=>cases e
  |cons i2 i=>
   cases i with
   |cons _ _=>simp[nq]at e
   |nil=>
    cases i2<;>try (cases e;done)
    rename_i hs hl;cases hl with
    |nil=>cases e
    |cons U hl=>
     cases U<;>try (cases e;done)
     cases hl with
     |nil=>cases e
     |cons a hl=>
      cases a<;>try (cases e;done)
      cases hl with
      |cons _ _=>simp[nq]at e
      |nil=>
       obtain⟨j,k,rfl,c,f⟩:=Fc T;simp only[nq]at e;split at e
       ·cases e
       ·rename_i g;have hd:∀n,dx≠.ty n:=λn z=>by subst z;exact g rfl
        split at e
        ·rename_i hh;obtain⟨rfl,rfl⟩:=hh;cases e
         cases f
         obtain⟨its,h,p,_⟩:=I.tuple (b7 G hs);obtain⟨l,m,rfl,M,O⟩:=h.two;cases M
         cases O
         exact G0 I (i1.mono G) hd c p (Ed X.K dx hd) λtk=>⟨.bl _,H,I.tok tk,rfl,q.one G (.bl _)⟩
        ·cases e
end
@[simp] noncomputable def lP:D->Option eK
 |.int i=>some (.inl i)
 |.str x=>some (.inr x)
 |_=>none
def uO {K:Frag}{B:Hp}{v:V}{d:D}{k:eK}(i:Is K B v d)(e:lP d=some k):v=kV k:=by
 cases i<;>simp only[lP]at e<;>cases e<;>rfl
noncomputable def gH {κ:Type}[DecidableEq κ]:List κ->LD->κ->Option D
 |k'::ks,d::ds,k=>if k'=k then some d else gH ks ds k
 |_,_,_=>none
theorem Bd {κ:Type}[DecidableEq κ]{K:Frag}{B:Hp}(k:κ):∀ {ks:List κ}{vs:LV}{ds:LD},ks.length=vs.length->IsL K B vs ds ->
  (∃v d,lK (ks.zip vs) k=some v/\gH ks ds k=some d/\Is K B v d)\/(lK (ks.zip vs) k=none/\gH ks ds k=none)
 |[],vs,ds,_,_=>.inr ⟨by cases vs<;>rfl,by cases ds<;>rfl⟩
 |k'::ks,[],_,h,_=>by simp at h
 |k'::ks,v::vs,_,h,.cons i is=>by
  rw[zip_cons_cons];unfold gH;by_cases e:k'=k
  ·rw[if_pos e];exact .inl ⟨v,_,mL (p:=(k',v)) e,rfl,i⟩
  ·rw[if_neg e,mM (p:=(k',v)) e];exact Bd k (by simpa using h) is
section
variable {X:Cx}{o e i:Expr}{pos:Pos}
@[simp] def G1:D->D->OB
 |.dk ks vs,y=>(lP y).map λk=>((gH ks vs k).getD .non,false)
 |_,_=>none
def G2 {dL cB:Pos}{b fe:FE}(hu:X.A.units+1<cLine)(c:JE X o b)(he:JE X e fe)(m:M1 X o "get" dL e cB):JE X (.Call (.Attribute o "get" dL) [e] [] cB) (f2 G1 b fe):=by
 refine PE.to (Fx hu c he m) λσ H Q q=>?_;obtain⟨B,ρ,d,bb,f,r,G,q⟩:=q;obtain⟨x,ex,G⟩:=oX G;obtain⟨y,g,G⟩:=oX G;refine⟨B,ρ,x.1,x.2,f,r,ex,λv l N1 O i1 n=>?_⟩;obtain⟨xd,p⟩:=x;cases i1 with
 |@dk a ks vs ds ob h hl hs=>
  simp only[G1]at G;obtain⟨k,hk,G⟩:=oY G;cases G
  refine⟨a,rfl,.inl ⟨_,_,.inl (O.nh _ _ h)⟩,N1,ρ,y.1,y.2,O.nh,r.mono O.bn,g,λs H2 N2 M i2 _=>?_⟩;have hv:=uO i2 hk;subst hv;refine⟨lK (ks.zip vs) k,.inl ⟨_,k,_,.inl (M.nh _ _ (M.bn _ _ h)),rfl,rfl⟩,?_⟩;have T:=hs.mono M.bn;rcases Bd k hl T with⟨v,d',U,e2,j⟩|⟨U,e2⟩
  ·rw[U];rw[e2]at q;exact(q.into (O.trans M)).one M.nh j
  ·rw[U];rw[e2]at q;exact(q.into (O.trans M)).one M.nh .non
 |_=>simp[G1]at G
@[simp] def Yw:D->D->OB
 |.dk ks vs,y=>(lP y).bind λk=>(gH ks vs k).map λd=>(d,false)
 |_,_=>none
@[simp] def QZ:D->D->OB
 |y,.dk ks vs=>(lP y).map λk=>(.bl (gH ks vs k).isSome,false)
 |_,_=>none
def Ef {κ:Type}[DecidableEq κ]{K:Frag}{B:Hp}{k:κ}{ks:List κ}{vs:LV}{ds:LD}(hl:ks.length=vs.length)(hs:IsL K B vs ds):(lK (ks.zip vs) k).isSome=(gH ks ds k).isSome:=by
 rcases Bd k hl hs with⟨v,d,G,e2,_⟩|⟨G,e2⟩
 ·rw[G,e2];rfl
 ·rw[G,e2];rfl
end
noncomputable def h8 {κ:Type}[DecidableEq κ](ks:List κ)(k:κ):List κ:=if k∈ks then ks else ks++[k]
noncomputable def fm {κ α:Type}[DecidableEq κ](ks:List κ)(xs:List α)(k:κ)(x:α):List α:=if k∈ks then List.zipWith (λk' G=>if k'=k then x else G) ks xs else xs++[x]
theorem C1 {κ:Type}[DecidableEq κ](k:κ):∀ {ks:List κ}{vs:LV},ks.length=vs.length->((ks.zip vs).any λkv=>decide (kv.1=k))=decide (k∈ks)
 |[],_,_=>by simp
 |k'::ks,[],h=>by simp at h
 |k'::ks,v::vs,h=>by
  have G:=C1 k (ks:=ks) (vs:=vs) (by simpa using h);rw[zip_cons_cons,any_cons,G];by_cases e:k'=k
  ·simp[e]
  ·have M:¬k=k':=λz=>e z.symm;simp[e,M]
theorem C2 {κ:Type}[DecidableEq κ](k:κ)(v:V):∀(ks:List κ)(vs:LV),(ks.zip vs).map (λkv=>if kv.1=k then (kv.1,v)else kv)=ks.zip (List.zipWith (λk' G=>if k'=k then v else G) ks vs)
 |[],_=>by simp
 |_::_,[]=>by simp
 |k'::ks,w::vs=>by
  rw[zip_cons_cons,uY,C2 k v ks vs,zipWith_cons_cons,zip_cons_cons];by_cases e:k'=k
  ·simp[e]
  ·simp[e]
def qm {κ:Type}[DecidableEq κ]{ks:List κ}{vs:LV}(hl:ks.length=vs.length)(k:κ)(v:V):mK (ks.zip vs) k v=(h8 ks k).zip (fm ks vs k v):=by
 unfold mK h8 fm;rw[C1 k hl];by_cases h:k∈ks
 ·rw[if_pos (As h),if_pos h,if_pos h,C2]
 ·rw[if_neg (by simpa using h),if_neg h,if_neg h,List.zip_append hl];rfl
def nu {κ α:Type}[DecidableEq κ]{ks:List κ}{xs:List α}(hl:ks.length=xs.length)(k:κ)(x:α):(h8 ks k).length=(fm ks xs k x).length:=by
 unfold h8 fm;split<;>simp[hl]
theorem IsL.zipWith {κ:Type}[DecidableEq κ]{K:Frag}{B:Hp}{k:κ}{v:V}{d:D}(i:Is K B v d):∀ {ks:List κ}{vs:LV}{ds:LD},IsL K B vs ds->IsL K B (List.zipWith (λk' G=>if k'=k then v else G) ks vs) (List.zipWith (λk' G=>if k'=k then d else G) ks ds)
 |[],_,_,_=>by simpa using IsL.nil
 |_::_,_,_,.nil=>by simpa using IsL.nil
 |k'::ks,_,_,.cons h t=>by
  rw[zipWith_cons_cons,zipWith_cons_cons];refine .cons ?_ (IsL.zipWith i t);by_cases e:k'=k
  ·rw[if_pos e,if_pos e];exact i
  ·rw[if_neg e,if_neg e];exact h
def IsL.put {κ:Type}[DecidableEq κ]{K:Frag}{B:Hp}{k:κ}{v:V}{d:D}(i:Is K B v d){ks:List κ}{vs:LV}{ds:LD}(h:IsL K B vs ds):IsL K B (fm ks vs k v) (fm ks ds k d):=by
 unfold fm;split
 ·exact h.zipWith i
 ·exact h.append (.cons i .nil)
section
variable {K:Frag}{E:Ends}{σ:St}{H:Hp}
noncomputable def C3 (i:Nat):FS:=λρ=>some (.nx (ρ.set i (some (.dk [] [],true))))
noncomputable def G3 (i:Nat):FS:=λρ=>some (.nx (ρ.set i (some (.dt [] [],true))))
def dR.newBox (s:dR K B0 H0 N H σ ρ)(i:Nat)(hp:H p=none)(hb:∀C,Bx K C ob dd):dR K B0 H0 (upd N p ob) (upd H p ob) (σ.set i (some (.ref p))) (ρ.set i (some (dd,true))):=by
 have x:=Ext.laid (o:=ob) s.ext.nh hp;have s1:=s.grow x;have G:N p=none:=s.ext.nh.free hp;have M:¬own σ ρ p:=λz=>by obtain⟨T,⟨q,_⟩,_⟩:=s.owned z;rw[G]at q;cases q
 have c:aU (dP N (own σ ρ)) (dP (upd N p ob) (λb=>own σ ρ b\/b=p)):=eW λb u e q=>⟨x.bn _ _ e,λz=>z.elim q λz=>by subst z;rw[G]at e;cases e⟩;refine s1.bindOwn aB (s.ext.hh.free hp) (λj e q z=>M ⟨j,e,q,z⟩) (λj e _ q=>?_) (λj e _ q=>?_) (hb _)
 ·obtain⟨w,h1,h2⟩:=s.sh j e q;exact⟨w,h1,h2.mono c⟩
 ·obtain⟨O,o',h1,h2,_,h4⟩:=s.ow j e q;exact⟨O,o',h1,x.bn _ _ h2,h4.mono c⟩
def G4 (q:nZ K (C3 i) E σ H):D1 Ft (jW i) E σ H:=by
 obtain⟨B0,H0,ρ,r,⟨N,s⟩,e,p⟩:=q;cases e
 exact λa ob ha=>p _ _ ⟨_,s.newBox i ha λ_=>.dk (ks:=[]) (vs:=[]) rfl .nil⟩
def G5 (q:nZ K (G3 i) E σ H):D1 Fu (jW i) E σ H:=by
 obtain⟨B0,H0,ρ,r,⟨N,s⟩,e,p⟩:=q;cases e
 exact λa ha=>p _ _ ⟨_,s.newBox i ha λ_=>.dt (ks:=[]) (vs:=[]) rfl .nil⟩
def zi (i:Nat)(M O:FE):FS:=λρ=>match ρ[i]? with
 |some (some (.dk ks vs,true))=>(O ρ).bind λv=>(M ρ).bind λk=>(lP k.1).bind λG=>if b8 v.1=true/\ks.length<sizeLine then some (.nx (ρ.set i (some (.dk (h8 ks G) (fm ks vs G v.1),true))))else none
 |_=>none
def G6 {i:Nat}{G M:FE}(q:nZ K (zi i G M) E σ H):BO (pV i) (tD K G) (tD K M) E σ H:=by
 obtain⟨B0,H0,ρ,r,⟨N,s⟩,e,p⟩:=q;unfold zi at e;split at e
 ·rename_i ks ds ei;obtain⟨v,T,e⟩:=oX e;obtain⟨k,ek,e⟩:=oX e;obtain⟨U,hk,e⟩:=oX e;split at e
  ·rename_i hx;cases e
   refine⟨N,ρ,v.1,v.2,s.ext.nh,s.rep,T,λc d N1 b i1 _=>?_⟩;have s1:=s.grow b;obtain⟨a,o,h1,h2,h3,h4⟩:=s1.ow i _ ei;refine⟨.ref a,h1,N1,ρ,k.1,k.2,s1.ext.nh,s1.rep,ek,λf H2 N2 O i2 _=>?_⟩;have s2:=s1.grow O;have hv:=uO i2 hk;subst hv;obtain⟨g,o',k1,k2,k3,k4⟩:=s2.ow i _ ei;rw[h1]at k1;cases k1
   cases k4 with
   |@dk ks vs ds hl h5 ob=>
    refine⟨a,rfl,.inl ⟨_,U,_,s2.ext.nh _ _ k2,rfl,?_,λh=>?_⟩⟩
    ·rw[length_zip];omega
    ·rw[qm hl];exact p σ _ ⟨_,s2.writeB ei h1 (.dk (nu hl _ _) (h5.put (s2.flat (i1.mono O.bn) hx.1)))⟩
  ·cases e
 ·cases e
end
section
variable {X:Cx}{pos:Pos}{e k:Expr}
def C4 (G:X.N.Nodup)(hi:X.N[i]? = some x:=by rfl)(hx:Ia X.env.scope x:=by first|exact Or.inl rfl|exact Or.inr rfl)(hs:swapsWith (.Dict [] [] dp) (some (.Name x p)) pos.line X.env=pure false:=by rfl)
  (hf:X.fn x=true\/X.env.scope.names.lookup x=some .local:=by first|exact .inl rfl|exact .inr rfl):JS X (.Assign [.Name x p] (.Dict [] [] dp) pos) (C3 i):=PS.to (wA G hi hx Fv hs hf) λ_ _ _ q=>G4 q
def J6 (G:X.N.Nodup)(hi:X.N[i]? = some x:=by rfl)(hx:Ia X.env.scope x:=by first|exact Or.inl rfl|exact Or.inr rfl)(hs:swapsWith (.Dict [] [] dp) (some (.Name x p)) pos.line X.env=pure false:=by rfl)
  (hf:X.fn x=true\/X.env.scope.names.lookup x=some .local:=by first|exact .inl rfl|exact .inr rfl):JS X (.Assign [.Name x p] (.Dict [] [] dp) pos) (G3 i):=PS.to (wA G hi hx Fw hs hf) λ_ _ _ q=>G5 q
def J7 (hu:X.A.units+1<cLine)(hv:JE X e T)(hk:JE X k U)(O:X.N[i]? = some y:=by rfl)(G:NW X.env.scope y:=by first|exact Or.inl rfl|exact Or.inr (Or.inl rfl)|exact Or.inr (Or.inr rfl))(hd:(y == ("__debug__" : Str))=false:=by decide)
  (M:(y == ("__classdict__" : Str))=false:=by decide) (hs:swapsWith e (some (.Subscript (.Name y py) k pt)) pos.line X.env=pure false:=by rfl):JS X (.Assign [.Subscript (.Name y py) k pt] e pos) (zi i U T) :=
 PS.to (wK hu (wz O G hd M) hk hv hs) λ_ _ _ q=>G6 q
end
section
variable {prog:Program}{w:World}{A:Around}{E:QV}{s:Shared}
abbrev oB (h:Heap)(z TI TO G:Addr)(f:Bool):Prop:=h.get? z=some { cls:=.type "zip",dict:=none,data:=.fields #[rawInt G,.bool f,.bool false,.ref TI,.ref TO],slots:=#[] }
def G7 (e:s.heap.get? a=some o)(h:Q (some o) s):wpAny (model prog w) A (loadIfAlive a) Q E s:=by
 intro M p G;unfold loadIfAlive;simp only[Sem.wp];rw[e];exact h
def vc {z TI TO G:Addr}{f:Bool}{O:Obj}{Q:Bool->Shared->Prop}(hz:oB s.heap z TI TO G f)(T:s.heap.get? G=some O)
  (q:∀h',oB h' z TI TO G true->Heap.SameBut z s.heap h'->Q false { s with heap:=h' }):wpAny (model prog w) A (Builtin.SmallTypes.ownedTupleIsFree (.ref z)) Q E s:=by
 unfold Builtin.SmallTypes.ownedTupleIsFree;refine wX (wpAny_field hz rfl (x:=rawInt G) rfl ?_);show wpAny _ _ (loadIfAlive ((G:Int).toNat)>>=_) _ _ _;rw[toNat_natCast];refine wX (G7 T ?_);simp only[isNone_some,uV,if_false];refine wX (wpAny_field hz rfl (x:=.bool f) rfl ?_);cases f with
 |true=>
  rw[if_neg (show ¬((Value.bool true != Value.bool true)=true)from uX)];exact wY (q s.heap hz (.refl _ _))
 |false=>
  rw[if_pos (show((Value.bool false != Value.bool true)=true)from rfl)];refine wX (wpAny_setField_rec hz (by simp) λh' M s'=>wY (q h' M s'))
end
section
variable {prog:Program}{w:World}{A:Around}{E:QV}{s:Shared}
def Eg {k1 k2:Bool}{z TI TO a i1 i2 l1 l2:Addr}{f:Bool}{k:Obj}{j:Nat}{xs ys:AV}{x y:Value}{Q:QV}(D:ZApart z TI TO i1 i2)(m1:l1≠z/\l1≠TO/\l1≠i1)(m2:l2≠z/\l2≠TO/\l2≠i1/\l2≠i2)
  (hz:oB s.heap z TI TO a f) (l:s.heap.get? a=some k) (m:IsPair s.heap TI (.ref i1) (.ref i2)) (n:l5 k1 s.heap i1 l1 j) (p:l5 k2 s.heap i2 l2 j) (r:kF k1 s.heap l1 xs) (t:kF k2 s.heap l2 ys) (hx:xs[j]? = some x) (hy:ys[j]? = some y)
  (q:∀h',oB h' z TI TO a true->l5 k1 h' i1 l1 (j+1)->l5 k2 h' i2 l2 (j+1)->IsPair h' s.z x y ->
   (∀c o,c≠z->c≠i1->c≠i2->s.heap.get? c=some o->h'.get? c=some o)->Q (.ref s.z) { s with heap:=h' }):
  wpAny (model prog w) A (Builtin.«zip.__next__» ⟨[.ref z],[]⟩) (λiO s'=>∃v,iO=.done (.ret v)/\Q v s') E s:=by
 show wpAny _ _ (field (.ref z) 2>>=_) _ _ s;refine wX (wpAny_field hz rfl (x:=.bool false) rfl ?_);show wpAny _ _ (field (.ref z) 3>>=_) _ _ s;refine wX (wpAny_field hz rfl (x:=.ref TI) rfl (wX (wpAny_seqItems m rfl ?_)));show wpAny _ _ (Builtin.SmallTypes.ownedTupleIsFree (.ref z)>>=_) _ _ s;refine wX (vc hz l λg1 b s1=>?_);simp only[uV,if_false];refine wX ?_;simp only[<-Array.forIn_toList,forIn_cons,forIn_nil];refine wX (wX (wpAny_holding ?_));show wpAny _ _ (Builtin.SmallTypes.nextOf (.ref i1)>>=_) _ _ { s with heap:=g1 };refine wX (gm (s:={ s with heap:=g1 }) (n.upon λo e=>s1.extBut _ _ D.az e) (r.upon λo e=>s1.extBut _ _ m1.1 e) hx λd g s2=>wY ?_);refine wY (wX (wX (wpAny_holding ?_)));show wpAny _ _ (Builtin.SmallTypes.nextOf (.ref i2)>>=_) _ _ { s with heap:=d };have G:∀ {c o},c≠z->c≠i1->s.heap.get? c=some o->d.get? c=some o:=λO T e=>s2.extBut _ _ T (s1.extBut _ _ O e);refine wX (gm (s:={ s with heap:=d }) (p.upon λo e=>G D.bz D.ab.symm e) (t.upon λo e=>G m2.1 m2.2.2.1 e) hy λM h U=>wY ?_);refine wY (wY ?_);refine wX (wpAny_newTuple (hsz:=(by decide:2<=sizeLine)) ?_);have sz:M.objs.size=s.z:=by rw[U.1,s2.1,s1.1]
 have u:∀c o,c≠z->c≠i1->c≠i2->s.heap.get? c=some o->M.get? c=some o:=λc o O T i e=>U.extBut _ _ i (G O T e);refine wY ⟨_,rfl,?_⟩;show Q (.ref M.objs.size) { s with heap:=M.push { cls:=.type "tuple",data:=.seq #[x,y] } };have hp:IsPair (M.push { cls:=.type "tuple",data:=.seq #[x,y] }) M.objs.size x y:=vY _ rfl;rw[sz]at hp |-;exact q _ (vZ _ (U.extBut _ _ D.bz.symm (s2.extBut _ _ D.az.symm b))) (g.upon λo e=>vZ _ (U.extBut _ _ D.ab e)) (h.upon λo e=>vZ _ e) hp λc o O T i e=>vZ _ (u c o O T i e)
def G8 {k1 k2:Bool}{z TI TO U i1 i2 l1 l2:Addr}{f:Bool}{g:Obj}{j:Nat}{xs ys:AV}{Q:PySem.Fin->Shared->Prop}(a:A.handled=none)(D:ZApart z TI TO i1 i2)(m1:l1≠z/\l1≠TO/\l1≠i1)(m2:l2≠z/\l2≠TO/\l2≠i1/\l2≠i2)
  (hz:oB s.heap z TI TO U f) (i:s.heap.get? U=some g) (k:IsPair s.heap TI (.ref i1) (.ref i2)) (b:l5 k1 s.heap i1 l1 j) (l:l5 k2 s.heap i2 l2 j) (d:kF k1 s.heap l1 xs) (m:kF k2 s.heap l2 ys) (he:xs[j]? = none\/ys[j]? = none)
  (q:∀h' x,(∀c o,c≠z->c≠i1->c≠i2->s.heap.get? c=some o->h'.get? c=some o)->(∃o,h'.get? x=some o/\o.cls=.type "StopIteration")->E (.ref x) { s with heap:=h' }):
  wpAny (model prog w) A (Builtin.«zip.__next__» ⟨[.ref z],[]⟩) Q E s:=by
 show wpAny _ _ (field (.ref z) 2>>=_) _ _ s;refine wX (wpAny_field hz rfl (x:=.bool false) rfl ?_);show wpAny _ _ (field (.ref z) 3>>=_) _ _ s;refine wX (wpAny_field hz rfl (x:=.ref TI) rfl (wX (wpAny_seqItems k rfl ?_)));show wpAny _ _ (Builtin.SmallTypes.ownedTupleIsFree (.ref z)>>=_) _ _ s;refine wX (vc hz i λg1 n s1=>?_);simp only[uV,if_false];refine wX ?_;simp only[<-Array.forIn_toList,forIn_cons,forIn_nil];refine wX (wX (wpAny_holding ?_));show wpAny _ _ (Builtin.SmallTypes.nextOf (.ref i1)>>=_) _ _ { s with heap:=g1 };cases hx:xs[j]? with
 |none=>
  exact wX (jv (s:={ s with heap:=g1 }) a (b.upon λo e=>s1.extBut _ _ D.az e) (d.upon λo e=>s1.extBut _ _ m1.1 e) hx λM x s2 hX=>q M x (λc o O T _ e=>s2 _ _ T (s1.extBut _ _ O e)) hX)
 |some v=>
  have hy:ys[j]? = none:=by
   rcases he with h|h
   ·rw[hx]at h;cases h
   ·exact h
  refine wX (gm (s:={ s with heap:=g1 }) (b.upon λo e=>s1.extBut _ _ D.az e) (d.upon λo e=>s1.extBut _ _ m1.1 e) hx λM p s2=>wY ?_);refine wY (wX (wX (wpAny_holding ?_)));show wpAny _ _ (Builtin.SmallTypes.nextOf (.ref i2)>>=_) _ _ { s with heap:=M };have G:∀ {c o},c≠z->c≠i1->s.heap.get? c=some o->M.get? c=some o:=λO T e=>s2.extBut _ _ T (s1.extBut _ _ O e);exact wX (jv (s:={ s with heap:=M }) a (l.upon λo e=>G D.bz D.ab.symm e) (m.upon λo e=>G m2.1 m2.2.2.1 e) hy λr x t hX=>q r x (λc o O T u e=>t _ _ u (G O T e)) hX)
end
structure ZA (k1 k2:Bool)(z TI TO i1 i2 l1 l2:Addr):Prop where
 D:ZApart z TI TO i1 i2
 m1:l1≠z/\l1≠TO/\l1≠i1
 m2:l2≠z/\l2≠TO/\l2≠i1/\l2≠i2
def G9 (k1 k2:Bool)(z TI TO i1 i2 l1 l2 S:Addr)(i:Nat)(h:Heap):Prop :=
 IsPair h TI (.ref i1) (.ref i2)/\l5 k1 h i1 l1 i/\l5 k2 h i2 l2 i/\((IsZip h z TI TO .none/\∃a b,IsPair h TO a b)\/∃G f M O,oB h z TI TO G f/\h.get? G=some M/\G∉[z,TI,TO,i1,i2]/\G≠S/\h.get? TO=some O)
def G9.keep {k1 k2:Bool}{z TI TO i1 i2 l1 l2 S:Addr}{i:Nat}{h h':Heap}(st:G9 k1 k2 z TI TO i1 i2 l1 l2 S i h)(G:S∉[z,TI,TO,i1,i2])(k:∀b o,b≠S->h.get? b=some o->h'.get? b=some o):G9 k1 k2 z TI TO i1 i2 l1 l2 S i h':=by
 obtain⟨M,O,T,U⟩:=st;have n:∀ {b},b∈[z,TI,TO,i1,i2]->b≠S:=λhb e=>G (e ▸ hb);refine⟨k _ _ (n (by simp)) M,O.upon λo e=>k _ o (n (by simp)) e,T.upon λo e=>k _ o (n (by simp)) e,?_⟩;rcases U with⟨b1,a,b,b2⟩|⟨c,f,d,g,b1,b2,b3,b4,j⟩
 ·exact .inl ⟨k _ _ (n (by simp)) b1,a,b,k _ _ (n (by simp)) b2⟩
 ·exact .inr ⟨c,f,d,g,k _ _ (n (by simp)) b1,k _ _ b4 b2,b3,b4,k _ _ (n (by simp)) j⟩
section
variable {prog:Program}{w:World}{A:Around}{E:QV}{s:Shared}{k1 k2:Bool}{z TI TO i1 i2 l1 l2 S:Addr}{j:Nat}{xs ys:AV}
def G9.ty (st:G9 k1 k2 z TI TO i1 i2 l1 l2 S j h):∃o,h.get? z=some o/\o.cls=.type "zip":=by
 obtain⟨_,_,_,G⟩:=st;rcases G with⟨b1,_⟩|⟨M,f,O,T,b1,_⟩
 ·exact⟨_,b1,rfl⟩
 ·exact⟨_,b1,rfl⟩
def GA (Z:ZA k1 k2 z TI TO i1 i2 l1 l2)(i:S<s.z)(st:G9 k1 k2 z TI TO i1 i2 l1 l2 S j s.heap)(g:kF k1 s.heap l1 xs)(h:kF k2 s.heap l2 ys)(hx:xs[j]? = some x)(hy:ys[j]? = some y)
  (q:∀h',G9 k1 k2 z TI TO i1 i2 l1 l2 S (j+1) h'->IsPair h' s.z x y->(∀c o,c∉[z,TI,TO,i1,i2]->s.heap.get? c=some o->h'.get? c=some o)->Q (some (.ref s.z)) { s with heap:=h' }):
  wpAny (model prog w) A (pyNext (.ref z)) Q E s:=by
 have M:s.TypeIs (.ref z) "zip":=st.ty;obtain⟨G,U,d,k⟩:=st;have lt:∀ {c o},s.heap.get? c=some o->s.z≠c:=λe=>ne_of_gt (vX e);obtain⟨t,l,_⟩:=U.ob;obtain⟨u,e2,_⟩:=d.ob;unfold pyNext;rcases k with⟨hz,a,b,O⟩|⟨m,f,n,p,hz,h0,n0,r,O⟩
 ·refine wX (wpAny_attempt (wpAny_callSpecial?_slot (name:=Str.ofString "__next__") M slot_zip_next (wpAny_call_entry slot_zip_next M entry_zip_next (yF Z.D Z.m1 Z.m2 hz G O U d g h hx hy λh' b1 b2 b3 b4 T v bk=>wY ?_) (args_zip_next_1 _))));refine q h' ⟨bk _ _ Z.D.tz Z.D.to Z.D.ta Z.D.tb G,b3,b4,.inr ⟨_,false,_,_,b1,T,?_,ne_of_gt i,b2⟩⟩ T λc o hc e=>bk c o (λz=>hc (by simp[z])) (λz=>hc (by simp[z])) (λz=>hc (by simp[z])) (λz=>hc (by simp[z])) e;simp only[mem_cons,not_mem_nil,or_false,not_or];exact⟨lt hz,lt G,lt O,lt l,lt e2⟩
 ·refine wX (wpAny_attempt (wpAny_callSpecial?_slot (name:=Str.ofString "__next__") M slot_zip_next (wpAny_call_entry slot_zip_next M entry_zip_next (Eg Z.D Z.m1 Z.m2 hz h0 G U d g h hx hy λh' b1 b3 b4 T bk=>wY ?_) (args_zip_next_1 _))));exact q h' ⟨bk _ _ Z.D.tz Z.D.ta Z.D.tb G,b3,b4,.inr ⟨m,true,n,p,b1,bk _ _ (λz=>n0 (by simp[z])) (λz=>n0 (by simp[z])) (λz=>n0 (by simp[z])) h0,n0,r,bk _ _ Z.D.oz Z.D.oa Z.D.ob O⟩⟩ T λc o hc e=>bk c o (λz=>hc (by simp[z])) (λz=>hc (by simp[z])) (λz=>hc (by simp[z])) e
def GB (O:A.handled=none)(Z:ZA k1 k2 z TI TO i1 i2 l1 l2)(st:G9 k1 k2 z TI TO i1 i2 l1 l2 S j s.heap)(U:kF k1 s.heap l1 xs)(d:kF k2 s.heap l2 ys)(he:xs[j]? = none\/ys[j]? = none)
  (q:∀h',(∀c o,c∉[z,TI,TO,i1,i2]->s.heap.get? c=some o->h'.get? c=some o)->Q none { s with heap:=h' }):wpAny (model prog w) A (pyNext (.ref z)) Q E s:=by
 have G:s.TypeIs (.ref z) "zip":=st.ty;obtain⟨g,h,i,l⟩:=st;unfold pyNext;rcases l with⟨hz,a,b,k⟩|⟨m,f,n,p,hz,h0,n0,r,k⟩
 ·refine wX (wpAny_attempt (wpAny_callSpecial?_slot (name:=Str.ofString "__next__") G slot_zip_next (wpAny_call_entry slot_zip_next G entry_zip_next (Ch O Z.D Z.m1 Z.m2 hz g k h i U d he λh' x hk hX=>?_) (args_zip_next_1 _))));obtain⟨o,M,co⟩:=hX;exact wX (wpAny_isInstance (T:="StopIteration") (b:=true) ⟨o,M,co⟩ isSubtype_stop (wY (q h' λc o hc e=>hk c o (λz=>hc (by simp[z])) (λz=>hc (by simp[z])) (λz=>hc (by simp[z])) (λz=>hc (by simp[z])) e)))
 ·refine wX (wpAny_attempt (wpAny_callSpecial?_slot (name:=Str.ofString "__next__") G slot_zip_next (wpAny_call_entry slot_zip_next G entry_zip_next (G8 O Z.D Z.m1 Z.m2 hz h0 g h i U d he λh' x hk hX=>?_) (args_zip_next_1 _))));obtain⟨o,M,co⟩:=hX;exact wX (wpAny_isInstance (T:="StopIteration") (b:=true) ⟨o,M,co⟩ isSubtype_stop (wY (q h' λc o hc e=>hk c o (λz=>hc (by simp[z])) (λz=>hc (by simp[z])) (λz=>hc (by simp[z])) e)))
end
def GC (h:a≠b):upd (upd H a o) b u=upd (upd H b u) a o:=by
 funext c;unfold upd;by_cases h1:c=b
 ·by_cases h2:c=a
  ·exact absurd (h2.symm.trans h1) h
  ·rw[if_pos h1,if_neg h2,if_pos h1]
 ·rw[if_neg h1];by_cases h2:c=a
  ·rw[if_pos h2,if_pos h2]
  ·rw[if_neg h2,if_neg h2,if_neg h1]
def kJ (h:H a=none):aU H (upd H a o):=λb u e=>by rw[aG (bg e h)];exact e
def Eh (h:(jh ds es)[i]? = some d):(jh ds es).take (i+1)=(jh ds es).take i++[d]:=by
 rw[take_add_one,h];rfl
def Be:typeLookup (.type "zip") "__len__" = pure none:=by rw[typeLookup_type,builtinLookup_eq_fast];kernel_rfl
def zj:typeLookup (.type "zip") "__length_hint__" = pure none:=by rw[typeLookup_type,builtinLookup_eq_fast];kernel_rfl
section
variable {X:Cx}{ah:AO}{σ:St}{B H0:Hp}{A:Around}{R:Result->Shared->Prop}{k1 k2:Bool}{z TI TO i1 i2 l1 l2 S:Addr}{us ws:LV}{ds es:LD}
def Ei (Y:A.handled=none)(Z:ZA k1 k2 z TI TO i1 i2 l1 l2)(j:S∉[z,TI,TO,i1,i2])(h1:mh k1 X.K B l1 us)(p:IsL X.K B us ds)(h2:mh k2 X.K B l2 ws)(r:IsL X.K B ws es)
  (hR:∀G N vs s',Inv X ah σ (upd G S (.lst vs)) s'->G S=none->Ext B N H0 G->IsL X.K N vs (jh ds es)->R (.ok (.ret .none)) s'):
  ∀(k i:Nat)(s:Shared)(G N:Hp)(vs:LV),(jh ds es).length - i=k->i<=(jh ds es).length->Inv X ah σ (upd G S (.lst vs)) s->G S=none->Ext B N H0 G->(∀b∈[z,TI,TO,i1,i2],md X ah (upd G S (.lst vs)) b) ->
   G9 k1 k2 z TI TO i1 i2 l1 l2 S i s.heap->IsL X.K N vs ((jh ds es).take i) ->
   codeAny (model X.prog X.w) A (.builtin "list.extend.loop" ⟨[.ref S,.ref z,.none],[]⟩) R s:=by
 have n1:=p.length;have n2:=r.length;have nz:(jh ds es).length=min ds.length es.length:=by unfold jh;rw[List.length_zipWith]
 intro k;induction k with
 |zero=>
  intro i s G N vs hk hi I hc M fp st U;have Dx:i=(jh ds es).length:=by omega
  have d:aU B (upd G S (.lst vs)):=(M.bn.trans M.nh).trans (kJ hc);obtain⟨its,l,m,t⟩:=(h1.same d).vals I;obtain⟨BE,n,p2,z2⟩:=(h2.same d).vals I;have C:=l.length;have e2:=n.length;refine codeAny_builtin PySem.F.entry_extend_loop ?_;rw[Around.under_plainId plain_extend_loop _];show wpAny _ A.in1 (pyNext (.ref z)>>=_) _ _ s;refine wX (GB (A:=A.in1) Y Z st m p2 ?_ λh' O=>?_)
  ·by_cases q:ds.length<=es.length
   ·left;simp;omega
   ·right;simp;omega
  ·refine wY (hR G N vs _ (jK (t':=s.toks) I fp O) hc M ?_);rw[Dx,take_length]at U;exact U
 |succ k ih=>
  intro i s G N vs hk hi I hc M fp st U;have ya:i<(jh ds es).length:=by omega
  have d:aU B (upd G S (.lst vs)):=(M.bn.trans M.nh).trans (kJ hc);obtain⟨its,l,m,t⟩:=(h1.same d).vals I;obtain⟨BE,n,p2,z2⟩:=(h2.same d).vals I;have d1:i<ds.length:=by omega
  have d2:i<es.length:=by omega
  obtain⟨x,hx,ix⟩:=p.get (vU d1);obtain⟨y,hy,iy⟩:=r.get (vU d2);obtain⟨u,hu,ru⟩:=l.get hx;obtain⟨v,hv,rv⟩:=n.get hy;have el:(jh ds es)[i]? = some (.tup [ds[i],es[i]]):=by
   unfold jh;rw[List.getElem?_zipWith,vU d1,vU d2]
  obtain⟨zl,D,c,XH,Y9,E⟩:=I.lstM aB;have H:S<s.z:=vX E;refine codeAny_builtin PySem.F.entry_extend_loop ?_;rw[Around.under_plainId plain_extend_loop _];show wpAny _ A.in1 (pyNext (.ref z)>>=_) _ _ s;refine wX (GA (A:=A.in1) Z H st m p2 (by simpa using hu) (by simpa using hv) λh' NN hp O=>?_);have J:upd G S (.lst vs) s.z=none:=I.hok.fresh (vT _);have h:s.z≠S:=ne_of_gt H;have L:G s.z=none:=by rw[aG h]at J;exact J
  have new:bI X.prog X.w (upd (upd G S (.lst vs)) s.z (.tup [x,y])) h' s.z (.tup [x,y]):=⟨by show 2<=sizeLine;decide,[u,v],.cons ru (.cons rv .nil),⟨_,hp,rfl,_,rfl⟩⟩;have P:Inv X ah σ (upd (upd G S (.lst vs)) s.z (.tup [x,y])) { s with heap:=h' }:=Ci (s:=s) (t':=s.toks) I fp O (vT _) new;rw[GC h.symm]at P;have Q:h'.get? S=some { cls:=.type "list",data:=.seq D.toArray c }:=O S _ j E;have T:Ext B (upd N s.z (.tup [x,y])) H0 (upd G s.z (.tup [x,y])):=M.trans (Ext.laid M.nh L);have vl:vs.length=i:=by rw[U.length,length_take];omega
  have zs:=zl;show wpAny _ A.in1 (updateSeq S (·.push (Value.ref s.z))>>=_) _ _ _;refine wX ?_;have lz:(vs++[V.ref s.z]).length<=sizeLine:=by
   rw[uZ,vl];have a1:=t;show i+1<=sizeLine;omega
  have W:=P.lset (t':=s.toks) (ys:=vs++[.ref s.z]) (its':=D++[.ref s.z]) (f:=(·.push (Value.ref s.z))) aB Q (by simp) (XH.append (.cons (show bf (.ref _) (.ref _)from rfl) .nil)) lz;rw[mF]at W;refine wpAny_updateSeq Q rfl (wY ⟨plainId_quiet plain_extend_loop _,ih (i+1) _ _ _ (vs++[.ref s.z]) (by omega) ya W (by rw[aG h.symm];exact hc) T (λb hb=>?_) (NN.keep j λb o hb e=>(Heap.get?_update_other _ _ (Ne.symm hb)).trans e) ?_⟩) (by simp;omega) (by simp;omega)
  ·obtain⟨f0,f1,f2,f3,f4,f5⟩:=fp b hb;refine⟨?_,f1,f2,f3,f4,f5⟩;have nb:b≠S:=λe=>j (e ▸ hb);rw[aG nb]at f0 |-;have nT:b≠s.z:=by
    obtain⟨hI,t1,t2,a4⟩:=st;obtain⟨o1,C,_⟩:=t1.ob;obtain⟨o2,e2,_⟩:=t2.ob;simp only[mem_cons,not_mem_nil,or_false]at hb;have lt:∀ {c o},s.heap.get? c=some o->c≠s.z:=λe=>vS (vX e);have g:∃o,s.heap.get? TO=some o/\∃o,s.heap.get? z=some o:=by
     rcases a4 with⟨hz,a,b,g⟩|⟨T0,f,oT,oO,hz,h0,n0,h,g⟩
     ·exact⟨_,g,_,hz⟩
     ·exact⟨_,g,_,hz⟩
    obtain⟨o3,e3,o4,e4⟩:=g;rcases hb with rfl|rfl|rfl|rfl|rfl
    ·exact lt e4
    ·exact lt hI
    ·exact lt e3
    ·exact lt C
    ·exact lt e2
   rw[aG nT];exact f0
  ·rw[Eh el];exact(U.mono (Ext.laid M.nh L).bn).append (.cons (.tup (iP.of aB) (.cons (ix.mono T.bn) (.cons (iy.mono T.bn) .nil))) .nil)
end
section
variable {X:Cx}{ah:AO}{σ:St}{B H:Hp}{s:Shared}{k1 k2:Bool}{z TI TO i1 i2 l1 l2:Addr}{us ws:LV}{ds es:LD}
def tX (w:X.A.handled=none)(I:Inv X ah σ H s)(Z:ZA k1 k2 z TI TO i1 i2 l1 l2)(fp:∀b∈[z,TI,TO,i1,i2],md X ah H b)
  (k:IsPair s.heap TI (.ref i1) (.ref i2)) (l:l5 k1 s.heap i1 l1 0) (m:l5 k2 s.heap i2 l2 0) (hz:IsZip s.heap z TI TO .none) (n:IsPair s.heap TO a b)
  (x:aU B H) (h1:mh k1 X.K B l1 us) (y:IsL X.K B us ds) (h2:mh k2 X.K B l2 ws) (C:IsL X.K B ws es)
  (q:∀(S:Addr)(U N:Hp)(vs:LV),U S=none->Ext B N H U->IsL X.K N vs (jh ds es)->Q (.ref S) (upd U S (.lst vs))):
  wq X (call (.type "list") [.ref z]) (EP X ah σ Q) X.xe s:=by
 have lt:∀ {c o},s.heap.get? c=some o->s.z≠c:=λe=>ne_of_gt (vX e);have G:s.z∉[z,TI,TO,i1,i2]:=by
  obtain⟨o1,D,_⟩:=l.ob;obtain⟨o2,e2,_⟩:=m.ob;simp only[mem_cons,not_mem_nil,or_false,not_or];exact⟨lt hz,lt k,lt n,lt D,lt e2⟩
 have p:s.z≠z:=lt hz;have E:G9 k1 k2 z TI TO i1 i2 l1 l2 s.z 0 s.heap:=⟨k,l,m,.inl ⟨hz,a,b,n⟩⟩;have hc:H s.z=none:=I.fresh;refine callType_codes (Q₁:=λobj O=>obj=.ref s.z/\O={ s with heap:=s.heap.push { cls:=.type "list",data:=.seq #[] } }) PySem.F.called_list (PySem.F.typeCall_list_1 _) PySem.F.entry_list_init
  (code_list_new _ ⟨rfl,rfl⟩) λobj O d=>?_
 obtain⟨rfl,rfl⟩:=d;have g:(s.heap.push { cls:=.type "list",data:=.seq #[] }).get? s.z=some { cls:=.type "list",data:=.seq ([]:LU).toArray }:=vY _ rfl;have J:Inv X ah σ (upd H s.z (.lst [])) { s with heap:=s.heap.push { cls:=.type "list",data:=.seq #[] } }:=I.lnew (t':=s.toks) (its:=[]) .nil (uN _);have L:G9 k1 k2 z TI TO i1 i2 l1 l2 s.z 0 (s.heap.push { cls:=.type "list",data:=.seq #[] }):=E.keep G λb o _ e=>vZ _ e;refine⟨⟨_,g,rfl⟩,PySem.F.args_list_init_2 _ _,?_⟩;show wpAny _ _ (do let To <-Builtin.List.listItems (.ref s.z);Builtin.List.listUpdate (.ref s.z) (λ_=>#[]);letGo To.toList.reverse;Builtin.List.listExtendWith (.ref s.z) (.ref z) .none) _ _ _;refine wX ?_;unfold Builtin.List.listItems;refine wX (wpAny_seqItems g rfl (wY ?_));show wpAny _ _ (updateSeq s.z (λ_=>#[])>>=λ_=>letGo (#[]:AV).toList.reverse>>=λ_=>Builtin.List.listExtendWith (.ref s.z) (.ref z) .none) _ _ _;refine wX (wpAny_updateSeq g rfl ?_);have h:=J.lset (t':=s.toks) (ys:=[]) (its':=[]) (f:=λ_=>#[]) aB g rfl .nil (uN _);have M:=L.keep (h':=(s.heap.push { cls:=.type "list",data:=.seq #[] }).update s.z (Obj.mapSeq λ_=>(#[]:AV))) G λb o hb e=>(Heap.get?_update_other _ _ (Ne.symm hb)).trans e;rw[mF]at h;generalize j:(s.heap.push { cls:=.type "list",data:=.seq #[] }).update s.z (Obj.mapSeq λ_=>(#[]:AV))=g2 at h M |-;obtain⟨_,XM,c2,P,_,r⟩:=h.lstM aB;have e2:=P.zero;subst e2;refine wX (wpAny_letGo ?_);unfold Builtin.List.listExtendWith;refine wX (wpAny_typeOf (T:="zip") M.ty ?_);have R:Builtin.List.listSameRef (.ref s.z) (.ref z)=false:=by simp[Builtin.List.listSameRef,p]
 have V:(Value.type "zip" == Value.type "list")=false:=by decide
 have W:(Value.type "zip" == Value.type "tuple")=false:=by decide
 simp only[R,V,W,Bool.or_false,uV,if_false];have Y:IsZip g2 z TI TO .none:=by
  rw[<-j];exact(Heap.get?_update_other _ _ p).trans (vZ _ hz)
 refine wX (wpAny_pyIter_zip Y ?_);refine wX (wpAny_holding ?_);unfold Builtin.List.listLengthHint;refine wX (wpAny_specialOf (T:="zip") M.ty Be ?_);show wpAny _ _ (specialOf (Value.ref z) (Str.ofString "__length_hint__")>>=_) _ _ _;refine wX (wpAny_specialOf (T:="zip") M.ty zj ?_);refine wY ?_;show wpAny _ _ (rule "list.extend.makes-room" >>= λ_=>Builtin.List.listTouch (.ref s.z)>>=λ_=>
  again (.builtin "list.extend.loop" ⟨[.ref s.z,.ref z,.none],[]⟩)) _ _ _
 refine wX (wpAny_rule ?_);refine wX ?_;show wpAny _ _ (updateSeq s.z (·.push .none)>>=λ_=>updateSeq s.z (·.pop)) _ _ _;refine wX (wpAny_updateSeq r rfl ?_);have i:=h.lset (t':=s.toks) (ys:=[.non]) (its':=[.none]) (f:=(·.push .none)) aB r rfl (.cons (show bf .non .none from rfl) .nil) (by show 1<=sizeLine;decide);have t:=M.keep (h':=g2.update s.z (Obj.mapSeq (·.push .none))) G λb o hb e=>(Heap.get?_update_other _ _ (Ne.symm hb)).trans e;rw[mF]at i;generalize hg3:g2.update s.z (Obj.mapSeq (·.push .none))=g3 at i t |-;obtain⟨_,XO,c3,v3,_,u⟩:=i.lstM aB;obtain⟨n3,rfl,r3⟩:=v3.one;cases r3
 refine wpAny_updateSeq (hz:=by simp<;>decide) u rfl ?_
 have v:=i.lset (t':=s.toks) (ys:=[]) (its':=[]) (f:=(·.pop)) aB u rfl .nil (uN _);have XQ:=t.keep (h':=g3.update s.z (Obj.mapSeq (·.pop))) G λb o hb e=>(Heap.get?_update_other _ _ (Ne.symm hb)).trans e;rw[mF]at v;refine wY ⟨plainId_quiet plain_extend_loop _,Ei (A:=X.A.in1) (B:=B) (H0:=H) w Z G h1 y h2 C (λU N vs s' I' NG xt il=>?_) _ 0 _ H B [] rfl (uN _) v hc (Ext.refl x) (λb hb=>?_) XQ .nil⟩
 ·exact⟨rfl,.ref s.z,_,I',rfl,q _ U N vs NG xt il⟩
 ·obtain⟨f0,f1⟩:=fp b hb;refine⟨?_,f1⟩;have nb:b≠s.z:=λe=>G (e ▸ hb);rw[aG nb];exact f0
end
@[simp] def Uj (fa G:FE):FE:=λρ=>(FV fa G ρ).map λds=>(.lst ds,true)
section
variable {X:Cx}{a b:Expr}{pos p pos2 p2:Pos}
def Bf (x:X.calm=true)(hl:X.mg "list" = none)(hm:X.mg "zip" = none)(ha:JE X a fa)(hb:JE X b fb)(y:Gl X "list":=by rfl)(A:Gl X "zip":=by rfl)
  (hs:starEach [a,b] X.env=[(false,eval a X.env),(false,eval b X.env)]:=by rfl) (M:starEach [b] X.env=[(false,eval b X.env)]:=by rfl)
  (j:starEach [.Call (.Name "zip" p2) [a,b] [] pos2] X.env=[(false,eval (.Call (.Name "zip" p2) [a,b] [] pos2) X.env)]:=by rfl):
  JE X (.Call (.Name "list" p) [.Call (.Name "zip" p2) [a,b] [] pos2] [] pos) (Uj fa fb):=by
 intro ah s σ H Q I q;obtain⟨B,ρ,d,bb,C,r,G,iO⟩:=q;obtain⟨zs,k,e2⟩:=oY G;cases e2
 clear G;have G:=k;clear k;obtain⟨m,ex,G⟩:=oX G;obtain⟨t,E,G⟩:=oX G;obtain⟨xs,F,G⟩:=oX G;obtain⟨ys,J,G⟩:=oY G;subst G;refine wpAny_Call_Name_kw (io I y hl FD ?_ (by decide) (by decide));refine PyProof.Rows.callWith_type1 ?_ (by rw[j];rfl) rfl;rw[j];show wpAny _ _ (spliced ((false,eval (.Call (.Name "zip" p2) [a,b] [] pos2) X.env)::backTo pos [])) _ _ s;refine Calls.spliced_cons ?_;refine wpAny_Call_Name_kw (io I A hm Lo ?_ (by decide) (by decide));refine PyProof.Rows.callWith_type1 (cA (ai ha (ai hb ao M) (by rw[hs,M]) pos2 ah s σ H (λvs f=>∃N1,Ext B N1 H f/\IsL X.K N1 vs [m.1,t.1]) I ⟨B,ρ,[m.1,t.1],C,r,by simp[ag,aj,ex,E],λvs f N1 U i1=>⟨N1,U,i1⟩⟩) λus s1 ⟨vs,f,e,L,N1,U,P⟩=>?_) (by rw[hs,M]) (by rw[M];rfl);cases P with
 |cons R g=>
  cases g with
  |cons g V=>
   cases V
   obtain⟨k1,l1,YA,rfl,h1,m1⟩:=yG R F;obtain⟨k2,l2,YB,rfl,h2,m2⟩:=yG g J;obtain⟨u1,u2,rfl,W,Y⟩:=L.two;cases W
   cases Y
   obtain⟨its,v1,u,z1⟩:=(h1.same U.nh).vals e;obtain⟨BE,v2,p2,z2⟩:=(h2.same U.nh).vals e;have EQ:=u.lt;have O:=p2.lt;refine Cg u p2 λh' Z c2 c3 c4 c5 ck=>?_;have D:ZApart (s1.z+4) (s1.z+2) (s1.z+3) s1.z (s1.z+1):=by
    constructor<;>(intro z;exact absurd z (by first|exact vS (Nat.add_lt_add_left (by decide) _)|exact ne_of_gt (Nat.add_lt_add_left (by decide) _)|exact vS (Nat.lt_add_of_pos_right (by decide))|exact ne_of_gt (Nat.lt_add_of_pos_right (by decide))))
   have c:∀ {l:Addr}(n:Nat),l<s1.z->l≠s1.z+n:=λn hl=>vS (vQ hl (le_add_right _ n));refine Calls.spliced_nil ?_;refine tX (s:={ s1 with heap:=h' }) (k1:=k1) (k2:=k2) (B:=N1) (H:=f) (e.ok.hd x) (e.kept (t':=s1.toks) ck) ⟨D,⟨c 4 EQ,c 3 EQ,c 0 EQ⟩,⟨c 4 O,c 3 O,c 0 O,c 1 O⟩⟩ (λb hb=>?_) c2 c4 c5 Z c3 U.nh h1 m1 h2 m2 λS Hc N vs h T i=>?_
   ·have v:s1.z<=b:=by
     simp at hb;rcases hb with rfl|rfl|rfl|rfl|rfl
     ·exact le_add_right _ 4
     ·exact le_add_right _ 2
     ·exact le_add_right _ 3
     ·exact vT _
     ·exact le_add_right _ 1
    exact e.fpOk v (e.hok.fresh v)
   ·have x3:=(U.trans T).trans (Ext.laid (o:=.lst vs) T.nh h);have w:=i.mono (Ext.laid (o:=.lst vs) T.nh h).bn;exact iO _ _ _ x3 (.lst (gN.of aB) w) λ_=>⟨_,_,_,rfl,rfl,(U.trans T).hh.free h,aB,w⟩
end
end DL
namespace DL
open PySem PySem.Spec PyProof.Rows
def xy:typeLookup (.type "list") "keys" = pure none:=by rw[typeLookup_type,builtinLookup_eq_fast];kernel_rfl
def Ej 
  (hx:s.heap.get? a=some { cls:=.type "list",dict:=none,data:=.seq xs k,slots:=sl }) (O:A.handled=none)
  (h:∀h' tk,(∀b o,s.heap.get? b=some o->h'.get? b=some o)->Q none { s with heap:=h',toks:=tk }):
  wpAny (model prog w) A (getAttr? (.ref a) "keys") Q E s:=by
 obtain⟨hp,g,d,tk,os⟩:=s;have M:∀G,(⟨hp,g,d,G,os⟩:Shared).TypeIs (.ref a) "list":=λ_=>⟨_,hx,rfl⟩;have f1:=sub_AttributeError;have f3:=slot_list_getattribute.lookup;have f4:=slot_list_getattribute.bind (.ref a);have f5:=am_list_getattr_none;unfold getAttr? getAttrBy? getAttrBy;repeat (any_goals (first|assumption|exact M _|((with_reducible show wpAny _ _ (call (Value.builtin "list.__getattribute__") _ _) _ _ _);refine call_meets slot_list_getattribute (M _) am_entry_list_getattribute (PySem.F.args_list_getattribute_2 _ _) (meets_getattribute_miss_list a xs k sl "keys" _ xy (by decide) (by decide)) ⟨hx,O,λh' G e hx'=>?_⟩)|wp_step))
 obtain⟨t',T,he⟩:=hx'.there;show wpAny _ _ (getattributeRaised _ _ _ _ _ _ _) _ _ _;unfold getattributeRaised;repeat (any_goals (first|assumption|wp_step))
 exact h _ _ hx'.of.keeps
end DL
namespace DL
open PySem PySem.Spec PyProof.Rows L2
def jj:LD->Option (List (eK×D))
 |[]=>some []
 |.tup [k,v]::r=>(lP k).bind λG=>(jj r).map λl=>(G,v)::l
 |_=>none
noncomputable def rq (a:LK×LD)(p:eK×D):LK×LD:=(h8 a.1 p.1,fm a.1 a.2 p.1 p.2)
noncomputable def ci (l:List (eK×D)):LK×LD:=l.foldl rq ([],[])
def rz (l:List (eK×D))(p:eK×D):ci (l++[p])=rq (ci l) p:=by unfold ci;rw[foldl_append];rfl
theorem r0:∀ {ds:LD}{l:List (eK×D)},jj ds=some l->l.length=ds.length
 |[],l,h=>by simp[jj]at h;subst h;rfl
 |d::r,l,h=>by
  unfold jj at h;split at h
  ·rename_i h0;cases h0
  ·rename_i k v G h0;cases h0
   obtain⟨M,_,h⟩:=oX h;obtain⟨O,h1,rfl⟩:=oY h;simp[r0 h1]
  ·cases h
theorem r6:∀ {ds:LD}{l:List (eK×D)}{i:Nat}{d:D},jj ds=some l->ds[i]? = some d->∃k v G,d=.tup [k,v]/\lP k=some G/\l[i]? = some (G,v)
 |[],l,i,d,_,h=>by simp at h
 |d0::r,l,i,d,h,hi=>by
  unfold jj at h;split at h
  ·rename_i h0;cases h0
  ·rename_i k v M h0;cases h0
   obtain⟨G,h2,h⟩:=oX h;obtain⟨O,h1,rfl⟩:=oY h;cases i with
   |zero=>simp at hi;subst hi;exact⟨k,v,G,rfl,h2,rfl⟩
   |succ i=>simp only[getElem?_cons_succ]at hi |-;exact r6 h1 hi
  ·cases h
def GD (l:List (eK×D)):∀a:LK×LD,a.1.length=a.2.length->(l.foldl rq a).1.length=(l.foldl rq a).2.length/\(l.foldl rq a).1.length<=a.1.length+l.length:=by
 induction l with
 |nil=>intro a h;exact⟨h,vT _⟩
 |cons p l G=>
  intro a h;have h1:(rq a p).1.length<=a.1.length+1:=by
   show(h8 _ _).length<=_;unfold h8;split<;>simp
  have:=G (rq a p) (nu h _ _);rw[foldl_cons,vE];exact⟨this.1,by omega⟩
def Ek (l:List (eK×D)):(ci l).1.length=(ci l).2.length/\(ci l).1.length<=l.length:=by
 have:=GD l ([],[]) rfl;exact⟨this.1,vR this.2 (by simp)⟩
def ve:entryFor table "dict.update.loop" = some Builtin.«dict.update.loop»:=entryFor_of_tree (by kernel_rfl)
def lA:plainId "dict.update.loop" = true:=by decide +kernel
section
variable {X:Cx}{ah:AO}{σ:St}{B H0:Hp}{A:Around}{R:Result->Shared->Prop}{it l d:Addr}{us:LV}{ds:LD}{jD:List (eK×D)}
def Bg (V:A.handled=none)(nl:l≠it)(nd:d≠it)(hl:gN X.K B l us)(p:IsL X.K B us ds)(hp:jj ds=some jD)
  (hR:∀G N vs ob s',Inv X ah σ (upd G d (.dK ((ci jD).1.zip vs) ob)) s'->G d=none->Ext B N H0 G->(ci jD).1.length=vs.length->IsL X.K N vs (ci jD).2->R (.ok (.ret .none)) s'):
  ∀(k i:Nat)(tk:Nat)(s:Shared)(G N:Hp)(vs:LV)(ob:Obj),ds.length - i=k->i<=ds.length->Inv X ah σ (upd G d (.dK ((ci (jD.take i)).1.zip vs) ob)) s->G d=none->Ext B N H0 G->md X ah (upd G d (.dK ((ci (jD.take i)).1.zip vs) ob)) it ->
   s.heap.IsListIter it l i->(ci (jD.take i)).1.length=vs.length->IsL X.K N vs (ci (jD.take i)).2 ->
   codeAny (model X.prog X.w) A (.builtin "dict.update.loop" ⟨[.ref d,.ref it,.int i tk,.none],[]⟩) R s:=by
 have n1:=p.length;have n2:=r0 hp;intro k;induction k with
 |zero=>
  intro i tk s G N vs ob hk hi I hc M fp st hz hv;have W:i=ds.length:=by omega
  have g:aU B (upd G d (.dK ((ci (jD.take i)).1.zip vs) ob)):=(M.bn.trans M.nh).trans (kJ hc);obtain⟨its,j,m,t⟩:=I.list (g.seq hl);have e1:=j.length;refine codeAny_builtin ve ?_;rw[Around.under_plainId lA _];show wpAny _ A.in1 (pyNext (.ref it)>>=_) _ _ s;refine wX (wpAny_pyNext_list_end (A:=A.in1) V st m.isList (by simp;omega) λh' Y=>?_);show wpAny _ _ (Builtin.Dict.addKeywords d []>>=_) _ _ _;refine wX (wY (wY ?_));have f:=jK (t':=s.toks) (h':=h') (ch:=[it]) I (λb hb=>by rw[uT hb];exact fp) λb o hb e=>Y b o (λq=>hb (by simp[q])) e;rw[W,<-n2,take_length]at f hz hv;exact hR G N vs ob _ f hc M hz hv
 |succ k Z=>
  intro i tk s G N vs ob hk hi I hc M fp st hz hv;have U:i<ds.length:=by omega
  have g:aU B (upd G d (.dK ((ci (jD.take i)).1.zip vs) ob)):=(M.bn.trans M.nh).trans (kJ hc);obtain⟨its,j,m,t⟩:=I.list (g.seq hl);obtain⟨kd,v,O,ed,ek,el⟩:=r6 hp (vU U);obtain⟨x,hx,y⟩:=p.get (vU U);rw[ed]at y;cases y with
  |@tup T xs _ hT n=>
   cases n with
   |cons ik r=>
    cases r with
    |cons iv r=>
     cases r
     rename_i xk h;have XU:=uO ik ek;subst XU;obtain⟨u,hu,ru⟩:=j.get hx;cases (show u=Value.ref T from ru)
     refine codeAny_builtin ve ?_;rw[Around.under_plainId lA _];show wpAny _ A.in1 (pyNext (.ref it)>>=_) _ _ s;refine wX (wpAny_pyNext_list_item (A:=A.in1) st m.isList (x:=.ref T) (by simpa using hu) λh' NN hs=>?_);have f:=jK (t':=s.toks) (h':=h') (ch:=[it]) I (λb hb=>by rw[uT hb];exact fp) λb o hb e=>hs.extBut b o (λq=>hb (by simp[q])) e;obtain⟨ps,r2,p2,z2⟩:=f.tuple (b7 g hT);obtain⟨z,C,rfl,rk,rv⟩:=r2.two;have XV:Shared.TypeIs { s with heap:=h' } (.ref T) "tuple":=by obtain⟨o,e,c,_⟩:=p2;exact⟨o,e,c⟩
     dsimp only;refine wX (wpAny_holding (wX (wpAny_tryCatch ?_)));unfold Builtin.Dict.pairItems;refine wX (wpAny_typeOf XV ?_);obtain⟨oT,eT,cT,nT,dT⟩:=p2;rw[if_pos (by decide)];refine wX (wpAny_seqItems eT dT (wY ?_));show wpAny _ _ (holding [z,C] (dictSet d z C)) _ _ _;obtain⟨zz,Tp,XW,E,dd⟩:=qD f.hok (a:=d) aB;have XX:XW.length<=sizeLine:=by rw[<-E.length];exact zz
     have nk:((ci (jD.take i)).1.zip vs).length<sizeLine:=by
      have a1:=(Ek (jD.take i)).2;have a2:=t;rw[length_take]at a1;rw[length_zip];omega
     refine wpAny_holding (wpAny_dictSet_pairs (hsz:=XX) (yn rk) dd λh2 F H=>?_);have Qq:(mK ((ci (jD.take i)).1.zip vs) O h).length<=sizeLine:=by have:=kn ((ci (jD.take i)).1.zip vs) O h;omega
     obtain⟨J,L⟩:∃q,h2.get? d=some q:=let ⟨q,_,_,hq,_⟩:=F;⟨q,hq⟩;have P:=wJ (t':=s.toks+1) f (a:=d) (ob:=.dK (mK ((ci (jD.take i)).1.zip vs) O h) J) (by rw[aB];exact True.intro) H ⟨_,L⟩ (Fq Qq Tp (E.put O rv) F L);rw[mF,qm hz]at P;have Q:jD.take (i+1)=jD.take i++[(O,v)]:=by rw[take_add_one,el];rfl
     have S:(ci (jD.take (i+1))).1=h8 (ci (jD.take i)).1 O:=by rw[Q,rz];rfl
     have XY:(ci (jD.take (i+1))).2=fm (ci (jD.take i)).1 (ci (jD.take i)).2 O v:=by rw[Q,rz];rfl
     refine wY ⟨plainId_quiet lA _,?_⟩;refine Z (i+1) 0 _ G N (fm (ci (jD.take i)).1 vs O h) J (by omega) U (by rw[S];exact P) hc M ?_ ?_ ?_ ?_
     ·obtain⟨f0,f1⟩:=fp;refine⟨?_,f1⟩;rw[aG nd.symm]at f0 |-;exact f0
     ·exact NN.at λo e=>(H.2 it nd.symm).trans e
     ·rw[S];exact nu hz _ _
     ·rw[XY];exact hv.put (iv.mono M.bn)
end
@[simp] def jM:LD->OB
 |[.lst ds]=>(jj ds).map λG=>(.dk (ci G).1 (ci G).2,false)
 |_=>none
def MX:bootBuiltins "dict" = some (.type "dict"):=by decide +kernel
section
variable {X:Cx}
def MY (T:X.calm=true):cr X (.type "dict") (BQ X.K jM):=by
 intro ah s σ H xs us Q I r h;obtain⟨B,P,d0,bb,f,v,O,q⟩:=h;cases v with
 |nil=>simp[jM]at O
 |cons i1 i2=>
  cases i2 with
  |cons _ _=>cases i1<;>simp[jM]at O
  |nil=>
   cases i1<;>try (simp[jM]at O;done)
   rename_i l R ds hl w;simp only[jM]at O;obtain⟨U,hp,O⟩:=oY O;cases O
   obtain⟨u,rfl,x⟩:=iq r;cases x
   have g:X.A.handled=none:=I.ok.hd T;refine callType_codes (Q₁:=λobj M=>obj=.ref s.z/\M={ s with heap:=s.heap.push { cls:=.type "dict",data:=.dict #[] } }) PySem.F.kt_called_dict (PySem.F.kt_typeCall_dict_1 _) PySem.F.entry_dict_init (kt_code_dict_new _ ⟨rfl,rfl⟩) ?_;rintro obj M ⟨rfl,rfl⟩;have i:Inv X ah σ (upd H s.z (.dK [] { cls:=.type "dict",data:=.dict #[] })) { s with heap:=s.heap.push { cls:=.type "dict",data:=.dict #[] } }:=I.laid (t':=s.toks) (λb o e=>vZ _ e) (vT _) (yo s.heap I.big);have j:H s.z=none:=I.fresh;have k:Shared.TypeIs { s with heap:=s.heap.push { cls:=.type "dict",data:=.dict #[] } } (.ref s.z) "dict":=⟨_,vY _ rfl,rfl⟩;refine⟨k,PySem.F.args_dict_init_2 _ _,?_⟩;unfold Builtin.«dict.__init__»;refine wX ?_;unfold Builtin.Dict.selfAndRest;refine wX (wpAny_notOrdered_dict k ?_);show wpAny _ _ (pure (s.z,[Value.ref l])) _ _ _;refine wY ?_;show wpAny _ _ (Builtin.Dict.updateFrom "dict.__init__" s.z (.ref l) [] .none) _ _ _;unfold Builtin.Dict.updateFrom;have y:aU B (upd H s.z (.dK [] { cls:=.type "dict",data:=.dict #[] })):=f.trans (kJ j);obtain⟨its,S,m,V⟩:=i.list (y.seq hl);have pl:=m.isList;obtain⟨n,z,G,cl,p,dl⟩:=m;have C:Shared.TypeIs { s with heap:=s.heap.push { cls:=.type "dict",data:=.dict #[] } } (.ref l) "list":=⟨n,G,cl⟩;refine wX (wpAny_typeOf C ?_);rw[if_pos (by decide)];obtain⟨oc,od,W,os⟩:=n;simp only at cl p dl;subst cl p dl;refine wX (Ej G (by exact g) λh' tk hk=>?_);dsimp only[Option.isNone_none];rw[if_pos rfl];have a:Inv X ah σ (upd H s.z (.dK [] { cls:=.type "dict",data:=.dict #[] })) { s with heap:=h',toks:=tk }:=i.kept (t':=tk) hk;refine wX (wpAny_rule ?_);refine wX (wpAny_pyIter_list (items:=its.toArray) ⟨_,hk _ _ G,rfl,z,rfl⟩ ?_);have D:Inv X ah σ (upd H s.z (.dK [] { cls:=.type "dict",data:=.dict #[] })) { s with heap:=h'.push { cls:=.type "list_iterator",data:=.fields #[.ref l,.int 0 0] },toks:=tk }:=a.kept (t':=tk) λb o e=>vZ _ e;have ld:s.z<h'.objs.size:=vX (hk _ _ (vY _ rfl));have E:l<h'.objs.size:=vX (hk _ _ G);refine wY ⟨plainId_quiet lA _,Bg (A:=X.A.in1) (B:=B) (H0:=H) (l:=l) (d:=s.z) (it:=h'.objs.size) g (vS E) (vS ld) hl w hp (λY N vs ob s' J t c hz hv=>?_) _ 0 0 _ H B [] _ rfl (uN _) D j (Ext.refl f) (a.fpOk (vT _) (a.hok.fresh (vT _))) ⟨_,vY _ rfl,rfl,rfl⟩ rfl .nil⟩;refine⟨rfl,.ref s.z,_,J,rfl,?_⟩;have L:=c.trans (Ext.laid (o:=.dK ((ci U).1.zip vs) ob) c.nh t);exact q _ _ _ L (.dk aB hz (hv.mono (Ext.laid (o:=.dK ((ci U).1.zip vs) ob) c.nh t).bn)) (by simp)
end
@[simp] noncomputable def C5:FE:=λ_=>none
def P4 (h:n+40<cLine):n+1<cLine:=by omega
section
variable {X:Cx}{e tg:Expr}
def xz:JE X e C5:=λah s σ H Q I h=>by obtain⟨B,ρ,d,b,_,_,e,_⟩:=h;cases e
end
def lB:LD->Option LK
 |[]=>some []
 |d::ds=>(lP d).bind λk=>(lB ds).map (k :: ·)
theorem GF {K:Frag}{B:Hp}:∀ {vs:LV}{ds:LD}{ks:LK},IsL K B vs ds->lB ds=some ks->vs=ks.map kV
 |_,_,ks,.nil,e=>by simp[lB]at e;subst e;rfl
 |_,_,ks,.cons i is,e=>by
  simp only[lB]at e;obtain⟨k,h1,e⟩:=oX e;obtain⟨r,h2,rfl⟩:=oY e;rw[uO i h1,GF is h2];rfl
@[simp] def Uk (M:FE)(fa:FA):FE:=λρ=>(M ρ).bind λx=>(fa ρ).bind λds=>match x.1 with
 |.dt G vs=>if ds.length<=sizeLine then (lB ds).map λk=>((gH G vs k).getD .non,false)else none
 |_=>none
section
variable {K:Frag}{E:Ends}{σ:St}{H:Hp}
def C6 (i:Nat)(M:FA)(O:FE):FS:=λρ=>match ρ[i]? with
 |some (some (.dt ks vs,true))=>(O ρ).bind λv=>(M ρ).bind λkd=>(lB kd).bind λG=>if b8 v.1=true/\ks.length<sizeLine/\kd.length<=sizeLine then some (.nx (ρ.set i (some (.dt (h8 ks G) (fm ks vs G v.1),true))))else none
 |_=>none
def GG {i:Nat}{M:FA}{O:FE}(q:nZ K (C6 i M O) E σ H):BO (pV i) (OS (Oe K M)) (tD K O) E σ H:=by
 obtain⟨B0,H0,ρ,r,⟨N,s⟩,e,p⟩:=q;unfold C6 at e;split at e
 ·rename_i ks ds ei;obtain⟨v,b,e⟩:=oX e;obtain⟨kd,ek,e⟩:=oX e;obtain⟨c,hk,e⟩:=oX e;split at e
  ·rename_i hx;cases e
   refine⟨N,ρ,v.1,v.2,s.ext.nh,s.rep,b,λf g N1 d i1 _=>?_⟩;have s1:=s.grow d;obtain⟨a,o,h1,h2,h3,h4⟩:=s1.ow i _ ei;refine⟨.ref a,h1,N1,ρ,kd,s1.ext.nh,s1.rep,ek,λus H2 N2 T i2=>?_⟩;have s2:=s1.grow T;have hv:=GF i2 hk;refine⟨by rw[i2.length];exact hx.2.2,λpp hp=>?_⟩;have U:=Ext.laid (o:=.tup us) s2.ext.nh hp;have G:=s2.grow U;obtain⟨h,o',k1,k2,k3,k4⟩:=G.ow i _ ei;rw[h1]at k1;cases k1
   cases k4 with
   |@dt ks vs ds hl h5=>
    refine⟨a,rfl,.inr ⟨_,c,pp,G.ext.nh _ _ k2,rfl,by rw[aB,hv],?_,?_⟩⟩
    ·rw[length_zip];omega
    ·rw[qm hl];exact p σ _ ⟨_,G.writeB ei h1 (.dt (nu hl _ _) (h5.put (G.flat ((i1.mono T.bn).mono U.bn) hx.1)))⟩
  ·cases e
 ·cases e
end
section
variable {X:Cx}{pos:Pos}{e:Expr}{es:QD}
def J8 (hu:X.A.units+1<cLine)(hv:JE X e T)(hk:JA X es U)(O:X.N[i]? = some y:=by rfl)(G:NW X.env.scope y:=by first|exact Or.inl rfl|exact Or.inr (Or.inl rfl)|exact Or.inr (Or.inr rfl))(hd:(y == ("__debug__" : Str))=false:=by decide)
  (M:(y == ("__classdict__" : Str))=false:=by decide) (hs:swapsWith e (some (.Subscript (.Name y py) (.Tuple es x1 NH) pt)) pos.line X.env=pure false:=by rfl):JS X (.Assign [.Subscript (.Name y py) (.Tuple es x1 NH) pt] e pos) (C6 i U T) :=
 PS.to (wK hu (wz O G hd M) (A3 hk) hv hs) λ_ _ _ q=>GG q
end
end DL
namespace L2
open PySem PySem.Spec PyProof.Rows
noncomputable def Sd (a:Addr)(aK:List (eK×V))(ob:Obj):It:=⟨λi H=>H a=some (.dK aK ob)/\i<aK.length,λi H x H'=>H'=H/\∃k,aK[i]? = some (k,x),λi H=>H a=some (.dK aK ob)/\aK.length<=i⟩
def KV.get {aK:List (eK×V)}{vs:List (eK×Value)}(r:KV aK vs){i:Nat}{k:eK}{x:V}(h:aK[i]? = some (k,x)):∃u,vs[i]? = some (k,u)/\bf x u:=by
 unfold KV at r;induction r generalizing i with
 |nil=>simp at h
 |@cons p q ps T hq t G=>
  cases i with
  |zero=>
   cases (show p=(k,x)from vK h)
   obtain⟨M,O⟩:=q;exact⟨O,by rw[show k=M from hq.1];rfl,hq.2⟩
  |succ i=>exact G h
def P5 (h:(cy P w).is k u=true):bf (kV k) u:=by
 cases k with
 |inl i=>exact Value.isInt_shape h
 |inr z=>exact Value.isStrOf_shape h
section
variable {P:Program}{w:World}{H:Hp}{h:Heap}{a:Addr}
def rA (ok:lJ P w H h)(e:H a=some (.dK aK ob))(hd:ob.data=.dict es O):∃vs,KV aK vs/\h.DictAt (cy P w) a vs O:=by
 obtain⟨_,_,vs,r,o,G,M,h1,h2,h3,h4⟩:=qD ok e;rw[A9 ok e]at h1;cases h1
 rw[hd]at h3;cases h3
 exact⟨vs,r,ob,es,A9 ok e,h2,hd,h4⟩
def x0 (ok:lJ P w H h)(e:H a=some (.dK aK ob)):∃es O,ob.data=.dict es O:=by
 obtain⟨_,_,vs,r,o,G,M,h1,h2,h3,h4⟩:=qD ok e;rw[A9 ok e]at h1;cases h1
 exact⟨G,M,h3⟩
end
def El {P:Program}{w:World}{K:Frag}{tg:Expr}(a it:Addr)(aK:List (eK×V))(ob:Obj){es:Array DictEntry}{g:Nat}(hd:ob.data=.dict es g):Turn P w K tg (Sd a aK ob) [it] it (λi h=>h.IsValIter it a i aK.length g) where
 mem:=by simp
 obj:=λi h st b hb=>by
  have e:b=it:=by simpa using hb
  subst e;obtain⟨o,e,c,d⟩:=st;exact⟨o,e,λv z=>by rw[d]at z;cases z⟩
 keep:=λi h h' st k=>st.at λo e=>k it (by simp) o e
 item:=by
  intro X O hw T hc i ah s σ H E I hf st U;subst O hw T;obtain⟨f,M⟩:=U;obtain⟨vs,r,m⟩:=rA I.hok f hd;obtain⟨f0,f1,f2,f3,f4,f5⟩:=hf it (by simp);have hl:vs.length=aK.length:=(Paired.length r).symm;obtain⟨u,hu,ru⟩:=r.get (k:=aK[i].1) (x:=aK[i].2) (vU M);refine wpAny_pyNext_values_item (by rw[hl];exact st) m hu λh' G j=>?_;rw[hl]at G;have l:Inv X ah σ H { s with heap:=h' }:=I.turned (t':=s.toks) (λb o hb e=>(j.2 b hb).trans e) f0 f1 f3 f4 f5;obtain⟨o,e,c,d⟩:=id G;exact⟨u,rfl,q9 (s:={ s with heap:=h' }) e c d (by decide) ⟨aK[i].2,H,l,ru,⟨rfl,aK[i].1,vU M⟩,G,λb hb=>(hf b hb).1⟩⟩
 done:=by
  intro X O hw T hc i ah s σ H E I hf st U;subst O hw T;obtain⟨f,p⟩:=U;obtain⟨vs,r,m⟩:=rA I.hok f hd;obtain⟨f0,f1,f2,f3,f4,f5⟩:=hf it (by simp);have hl:vs.length=aK.length:=(Paired.length r).symm;exact wpAny_pyNext_values_end (I.ok.hd hc) (by rw[hl];exact st) m (getElem?_eq_none (by omega)) λh' n=>⟨rfl,I.turned (t':=s.toks) (λb o hb e=>n b o hb e) f0 f1 f3 f4 f5⟩
 self:=λ_ _ _ _ _ st h=>wpAny_pyIter_valiter st h
section
variable {X:Cx}{tg:Expr}
def P7 (M:TE):TI:=λσ H R=>M σ H λx G=>∃a aK ob,x=.ref a/\G a=some (.dK aK ob)/\R (Sd a aK ob) G
def J9 {o:Expr}{d:TE}{dL cB:Pos}(i:PE X o d)(G:attributeBase o "values" X.env (eval o X.env)=eval o X.env:=by rfl)(M:(dL.endLine == cB.line)=true:=by rfl):PI X tg (.Call (.Attribute o "values" dL) [] [] cB) (P7 d):=by
 intro ah s σ H R I h;refine wpAny_Call_method0_late G M (cA (i ah s σ H _ I h) λv s1 ⟨x,f,O,g,a,aK,ob,ex,U,q⟩=>?_);subst ex;obtain⟨h1,h2⟩:=A8 O g (T:="dict") (.inr (.inr (.inl ⟨rfl,.inl ⟨aK,ob,U⟩⟩)));cases g
 obtain⟨es,j,hd⟩:=x0 O.hok U;obtain⟨vs,r,m⟩:=rA O.hok U hd;have hl:vs.length=aK.length:=(Paired.length r).symm;refine⟨"dict","dict.values",plainAttrs_dict,PySem.F.slot_dict_values,PySem.F.type_dict_values,h1,h2,Calls.callWith_builtin rfl (PySem.evalArgs_none ?_)⟩;refine call_meetsIn PySem.F.slot_dict_values h1 PySem.F.entry_dict_values (PySem.F.args_dict_values_1 _) (meets_dict_values (cy X.prog X.w) a (qD O.hok U).2.1) ⟨⟨vs,m.dictOf⟩,?_⟩;have c:Inv X ah σ f { s1 with heap:=s1.heap.push { cls:=.type "dict_values",data:=.fields #[.ref a] } }:=O.kept (t':=s1.toks) λb o e=>vZ _ e;refine wpAny_pyIter_values (v:=s1.z) ⟨_,vY _ rfl,rfl,rfl⟩ (m.keep λb o e=>vZ _ e) ?_;rw[hl];refine⟨(s1.heap.push { cls:=.type "dict_values",data:=.fields #[.ref a] }).objs.size,[(s1.heap.push { cls:=.type "dict_values",data:=.fields #[.ref a] }).objs.size],_,_,f,rfl,c.kept (t':=s1.toks) λb o e=>vZ _ e,El a _ aK ob hd,⟨_,vY _ rfl,rfl,rfl⟩,λb hb=>?_,q⟩;have e:b=(s1.heap.push { cls:=.type "dict_values",data:=.fields #[.ref a] }).objs.size:=by simpa using hb
 subst e;exact c.fpOk (vT _) (c.hok.fresh (vT _))
end
end L2
namespace DL
open PySem PySem.Spec PySem.W PyProof.Rows L2
noncomputable def kD:eK->D
 |.inl i=>.int i
 |.inr z=>.str z
def P8 {K:Frag}{B:Hp}(k:eK):Is K B (kV k) (kD k):=by
 cases k with
 |inl i=>exact .int i
 |inr z=>exact .str z
section
variable {K:Frag}{B:Hp}
def JB {a:Addr}{ks:LK}{vs:LV}{ds:LD}{ob:Obj}(h:B a=some (.dK (ks.zip vs) ob))(hl:ks.length=vs.length)(hs:IsL K B vs ds):mO K (Sd a (ks.zip vs) ob) B ds:=by
 intro i H s;have hz:(ks.zip vs).length=vs.length:=by rw[length_zip];omega
 refine⟨λd ed=>?_,λG=>⟨s _ _ h,by rw[hz,hs.length];exact G⟩⟩;obtain⟨v,O,iv⟩:=hs.get ed;have M:i<vs.length:=(vV O).1;refine⟨⟨s _ _ h,by rw[hz];exact M⟩,λy T hy=>?_⟩;obtain⟨rfl,k,e⟩:=hy;have:=(getElem?_zip_eq_some.mp e).2;rw[O]at this;cases this
 exact⟨B,.refl s,iv⟩
end
section
variable {X:Cx}{e:Expr}{tg:Expr}
@[simp] noncomputable def rB (f:FE):FA:=λρ=>(f ρ).bind λx=>match x.1 with|.dk _ ds=>some ds|_=>none
def C7 (h:JE X e f)(G:attributeBase e "values" X.env (eval e X.env)=eval e X.env:=by rfl)(M:(dL.endLine == cB.line)=true:=by rfl):JI X tg (.Call (.Attribute e "values" dL) [] [] cB) (rB f):=by
 intro ah s σ H R I q;obtain⟨B,ρ,ds,T,r,U,q⟩:=q;obtain⟨⟨xd,c⟩,ex,es⟩:=oX U;cases xd<;>try (cases es;done)
 cases es
 refine J9 h G M ah s σ H R I ⟨B,ρ,_,_,T,r,ex,λv b N1 O i1 _=>?_⟩;cases i1 with
 |@dk a ks vs ds ob hd hl hs=>exact⟨a,_,ob,rfl,O.nh _ _ hd,q _ b N1 O (JB hd hl hs)⟩
end
end DL
namespace DL
open PySem PySem.Spec PyProof.Rows L2
@[simp] abbrev cx (i:Nat)(j:Int):FE:=f2 bF (am i) (fC (.int j))
def aY (F:Fn X.prog X.w X.K X.mg X.base k x f)(O:eV j X.A)(ha:JA X (e::es) fa)(hj:k<=j:=by decide)(T:Gl X x:=by rfl)(G:(x == ("__debug__" : Str))=false:=by decide)(he:starEach (e::es) X.env=(false,eval e X.env)::starEach es X.env:=by rfl)(M:(backTo U (starEach es X.env)).any (·.1)=false:=by rfl):JE X (.Call (.Name x p) (e::es) [] U) (fA f fa):=BU F (O.mono hj) ha T G he M
def P9 (h1:∀y∈scope.names,y.2≠.cell:=by decide +kernel)(h2:scope.kind=.function:=by rfl)(h3:∀y∈scope.names,y.2=.local->scope.names.lookup y.1=some .local:=by decide +kernel)(G:(scope.names.all λy=>!(y.2 == NameKind.free) || (X.env.cells.lookup y.1).isSome)=true:=by rfl):CompSc X scope (dW scope.names X.env.cells []):=M6 h1 h2 h3 G
def Ul (h1:N'[j]? = some x)(h2:X.N[i]? = some x)(t:nX X N' scope (dW scope.names X.env.cells []) (j+1) r)(h3:X.env.kindOf x=some .cell\/X.env.kindOf x=some .free:=by exact Or.inl rfl)(h4:(relabel scope X.env).names.lookup x=some .cell\/(relabel scope X.env).names.lookup x=some .free:=by exact Or.inl rfl)(hf:(x,NameKind.free)∈scope.names:=by decide +kernel)(hc:(X.env.cells.lookup x).isSome=true:=by rfl):nX X N' scope (dW scope.names X.env.cells []) j (i::r):=.cons h1 h2 h3 h4 (wN hf hc) t
end DL
namespace DL
open PySem PySem.Spec PySem.W PyProof.Rows L2
noncomputable def oC:At->D
 |.i n=>.int n
 |.s z=>.str z
section
variable {prog:Program}{w:World}{A:Around}{E:QV}{s:Shared}
def PB (hx:Av x u)(hy:Av y v):SeqAt.EqAt A s u v (cV (oC x) (oC y)):=by
 cases x with
 |i a=>
  obtain⟨t,rfl⟩:=hx;cases y with
  |i c=>obtain⟨t',rfl⟩:=hy;simp only[oC,cV];exact SeqAt.EqAt.int_int _ _ _ _
  |s c=>obtain⟨t',rfl⟩:=hy;simp only[oC,cV];exact SeqAt.EqAt.int_str _ _ _ _
 |s a=>
  obtain⟨t,rfl⟩:=hx;cases y with
  |i c=>obtain⟨t',rfl⟩:=hy;simp only[oC,cV];exact SeqAt.EqAt.str_int _ _ _ _
  |s c=>obtain⟨t',rfl⟩:=hy;simp only[oC,cV];exact SeqAt.EqAt.str_str _ _ _ _
theorem C8:∀ {xs ys:List At}{vs:LU},Paired Av xs vs->Paired Av ys vs->xs=ys
 |_,_,_,.nil,.nil=>rfl
 |x::xs,y::ys,_,.cons p ps,.cons q G=>by
  rw[C8 ps G];congr 1;cases x with
  |i a=>
   obtain⟨t,rfl⟩:=p;cases y with
   |i c=>obtain⟨t',e⟩:=q;cases e;rfl
   |s c=>obtain⟨t',e⟩:=q;cases e
  |s a=>
   obtain⟨t,rfl⟩:=p;cases y with
   |i c=>obtain⟨t',e⟩:=q;cases e
   |s c=>obtain⟨t',e⟩:=q;cases e;rfl
def MZ (x y:At):cV (oC x) (oC y)=true↔x=y:=by
 cases x<;>cases y<;>simp[oC]
theorem qo:∀xs ys:List At,gb (xs.map oC) (ys.map oC)=true↔xs=ys
 |[],[]=>by simp[gb]
 |[],_::_=>by simp[gb]
 |_::_,[]=>by simp[gb]
 |x::xs,y::ys=>by
  rw[uY,uY,gb,vC,MZ,qo xs ys];simp
def Na (hx:fM s.heap xs x)(hy:fM s.heap ys y)(hu:A.units<cLine):SeqAt.EqAt A s x y (gb (xs.map oC) (ys.map oC)):=by
 obtain⟨a,o,its,n,rfl,e,hc,hd,r⟩:=hx;obtain⟨b,o',G,m,rfl,M,U,O,c⟩:=hy;by_cases T:a=b
 ·subst T;rw[e]at M;cases M;rw[hd]at O;cases O;rw[C8 r c,(qo ys ys).mpr rfl];exact SeqAt.EqAt.same _
 ·have f:s.heap.IsTuple a its:=⟨o,e,hc,n,hd⟩;have g:s.heap.IsTuple b G:=⟨o',M,U,m,O⟩;have l1:xs.length=its.size:=by rw[<-vG];exact fD r
  have l2:ys.length=G.size:=by rw[<-vG];exact fD c
  have he:∀j (h1:j<its.size) (h2:j<G.size),SeqAt.EqAt A.in1 s its[j] G[j] (cV ((xs.map oC).getD j .non) ((ys.map oC).getD j .non)):=λj h1 h2=>by
   have p:=fE (.i 0) Value.none r (i:=j) (by omega);have q:=fE (.i 0) Value.none c (i:=j) (by omega);have d:its.toList.getD j Value.none=its[j]:=by rw[vF,getElem?_toList,getElem?_eq_getElem h1];rfl
   have e2:G.toList.getD j Value.none=G[j]:=by rw[vF,getElem?_toList,getElem?_eq_getElem h2];rfl
   rw[d]at p;rw[e2]at q;have h:(xs.map oC).getD j .non=oC (xs.getD j (.i 0)):=by simp[vF,show j<xs.length by omega]
   have k:(ys.map oC).getD j .non=oC (ys.getD j (.i 0)):=by simp[vF,show j<ys.length by omega]
   rw[h,k];exact PB p q
  have rc:=SeqAt.RcAt.tuples f g hu he;have l:((List.range (min its.size G.size)).all (λj=>cV ((xs.map oC).getD j .non) ((ys.map oC).getD j .non)) && its.size == G.size)=gb (xs.map oC) (ys.map oC):=by
   rw[<-l1,<-l2];by_cases hl:xs.length=ys.length
   ·rw[<-hl,Nat.min_self,beq_self_eq_true,Bool.and_true];have:=jG (λj=>cV ((xs.map oC).getD j .non) ((ys.map oC).getD j .non)) (xs:=xs.map oC) (ys:=ys.map oC) (by simpa using hl) λj x y d e2=>wT j x y d e2;rwa [vI]at this
   ·rw[wS (by simpa using hl),beq_eq_false_iff_ne.mpr hl,Bool.and_false]
  rw[l]at rc;exact SeqAt.EqAt.of_refs T rc
def Em (xs:List At):bu xs xs=some false:=by
 induction xs with
 |nil=>rfl
 |cons x xs G=>cases x<;>rw[bu,if_pos rfl,G]
def GH (hx:fM s.heap xs x)(hy:fM s.heap ys y)(h:bu (.i n::xs) (.i m::ys)=some b)(hu:A.units<cLine)(q:Q b s)(hn:Av (.i n) u)(hm:Av (.i m) v):KatLex prog w A true false Q [(u,v),(x,y)] 0 s:=by
 obtain⟨t,rfl⟩:=hn;obtain⟨t',rfl⟩:=hm;refine kat_cons (wpAny_eqBool_int ?_);rw[bu]at h;by_cases e:n=m
 ·rw[if_pos e]at h;rw[show(n == m)=true by simp[e]];refine kat_yes (kat_cons (Na hx hy hu _ _ _ _ ?_));by_cases e2:xs=ys
  ·rw[(qo xs ys).mpr e2];rw[e2,Em]at h;cases h
   exact kat_yes (kat_nil q)
  ·rw[eq_false_iff.mpr λz=>e2 ((qo xs ys).mp z)];refine kat_no (kat_one _ _ ?_);show wpAny _ _ (richCompare .Lt x y) _ _ _;exact Gx (Q:=W.BoolBack Q) hx hy h hu (by first|exact q|exact⟨b,rfl,q⟩)
 ·rw[if_neg e]at h;cases h
  rw[show(n == m)=false by simp[e]];exact kat_no (oneLt_int q)
end
def En (h:Heap)(xs:List At)(v:Value):Prop:=∃n k a o its m u x,xs=.i n::k/\v=.ref a/\h.get? a=some o/\o.cls=.type "tuple"/\o.data=.seq its m/\its.toList=[u,x]/\Av (.i n) u/\fM h k x
section
variable {prog:Program}{w:World}{A:Around}{E:QV}{s:Shared}
def JD (hx:En s.heap xs x)(hy:En s.heap ys y)(h:bu xs ys=some b)(hu:A.units<cLine)(q:Q b s):wpAny (model prog w) A (keyLt' (tuples' true) x y) Q E s:=by
 obtain⟨n,k,a,o,its,m,u,d,rfl,rfl,U,_,hd,ei,an,c⟩:=hx;obtain⟨e,k',f,o',its',g,i,j,rfl,rfl,M,_,O,G,T,ty⟩:=hy;refine kat_lt U hd M O ?_;rw[ei,G];have hf:decide (its.size<its'.size)=false:=by
  rw[<-vG,<-vG,ei,G];rfl
 rw[hf];exact GH c ty h hu q an T
theorem pz:∀ {ks:List (List At)}{vs:LU},Paired (En h) ks vs->∃fs,KatTups h vs fs/\fs.length=ks.length/\∀v∈fs,∃n,Av (.i n) v
 |_,_,.nil=>⟨[],trivial,rfl,by simp⟩
 |k::ks,_,.cons x t=>by
  obtain⟨fs,h1,h2,h3⟩:=pz t;obtain⟨n,k,a,o,its,m,u,M,rfl,rfl,G,hc,hd,ei,an,_⟩:=x;refine⟨u::fs,KatTups.cons G hc hd (by rw[<-getElem?_toList,ei];rfl) h1,by simp[h2],λv hv=>?_⟩;rcases vP hv with rfl|hv
  ·exact⟨n,an⟩
  ·exact h3 v hv
def Eo (hp:Paired (En s.heap) ks vs)(hn:0<ks.length)(q:Q (tuples' true) s):wpAny (model prog w) A (keyKind' vs.toArray) Q E s:=by
 obtain⟨fs,h1,h2,h3⟩:=pz hp;refine kat_kind (T:=.type "int") h1 (by omega) (λv hv=>?_) (by decide) q;obtain⟨n,t,rfl⟩:=h3 v hv;exact .now
def GI (hc:dn ks=true)(hu:A.units<cLine)(hp:Paired (En s.heap) ks vs):∀(i j:Nat)(C:Bool->Shared->Prop)(s1:Shared),i<ks.length->j<ks.length->s1=s->(∀s',s'=s->C (rb (Aw ks) i j) s')->kas_ask prog w A (tuples' true) vs i j C s1:=by
 intro i j C s1 hi hj e M;subst e;unfold kas_ask;have G:ks.getD i []∈ks:=by rw[vF,vU hi];exact getElem_mem hi
 have O:ks.getD j []∈ks:=by rw[vF,vU hj];exact getElem_mem hj
 refine JD (fE [] Value.none hp hi) (fE [] Value.none hp hj) (ig hc G O) hu ?_;have:=M s1 rfl;unfold rb Aw at this;rw[yZ (uS ⟨_,G,rfl⟩)]at this;exact this
end
def Nb:D->Option (List At)
 |.tup [.int n,.tup es]=>(fT es).map (.i n :: ·)
 |_=>none
def j5:LD->Option (List (List At))
 |[]=>some []
 |d::ds=>(Nb d).bind λa=>(j5 ds).map (a :: ·)
theorem vg:∀ {ds:LD}{ks:List (List At)},j5 ds=some ks->ks.length=ds.length
 |[],_,h=>by simp only[j5]at h;cases h;rfl
 |d::ds,_,h=>by
  simp only[j5]at h;obtain⟨a,h1,h⟩:=oX h;obtain⟨r,h2,h⟩:=oY h;subst h;simp[vg h2]
theorem zk (I:Inv X ah σ H s):∀ {ys:LV}{ds:LD}{ks:List (List At)}{its:LU},bq ys its->IsL X.K H ys ds->j5 ds=some ks->Paired (En s.heap) ks its
 |_,_,_,_,.nil,.nil,h=>by simp only[j5]at h;cases h;exact .nil
 |_,_,_,_,.cons r T,.cons i U,h=>by
  simp only[j5]at h;obtain⟨a,h1,h⟩:=oX h;obtain⟨t,h2,h⟩:=oY h;subst h;refine .cons ?_ (zk I T U h2);unfold Nb at h1;split at h1
  ·rename_i n es;obtain⟨k,M,rfl⟩:=oY h1;cases i with
   |tup hq hl=>
    cases r
    obtain⟨its',G,⟨o,b,hc,m,hd⟩,_⟩:=I.tuple hq;cases hl with
    |cons i1 hl=>
     cases hl with
     |cons i2 hl=>
      cases hl
      cases G with
      |cons c G=>
       cases G with
       |cons d G=>
        cases G
        cases i1
        have hk:dH [D.tup es]=some [k]:=by show(fT es).bind _=_;rw[M];rfl
        have O:=nn I (.cons d .nil) (.cons i2 .nil) hk;cases O with
        |cons O _=>exact⟨n,k,_,o,_,m,_,_,rfl,rfl,b,hc,hd,rfl,c,O⟩
  ·cases h1
def JF (hu:A.units<cLine):KK X A j5 λ_=>true:=⟨vg,λI _ _ _ _ r i e _ hc=>have hp:=zk I r i e;⟨λhn _ _ q=>Eo hp hn q,GI hc hu hp⟩⟩
def GJ (hu:X.A.units+40<cLine):KK X X.A.in1.in1 j5 λ_=>true:=JF (show X.A.units+1+1<cLine by omega)
@[simp] abbrev Bh:FE->(Env->D->Option D)->FE:=xx j5 λ_=>true
end DL
namespace DL
open PySem PySem.Spec PyProof.Rows L2
def PD:Nat->(LU->Prop)->Prop
 |0,P=>P []
 |n+1,P=>∀a,PD n λl=>P (a::l)
theorem GK:∀n P,PD n P->∀us:LU,us.length=n->P us
 |0,_,h,[],_=>h
 |n+1,_,h,a::us,e=>GK n _ (h a) us (Nat.succ.inj e)
section
variable {P:Program}{w:World}{K:Frag}{mg:SV}{base:Heap}
def KC (K:Frag)(mg:SV)(x:Str)(c:D):Prop:=∃u v,mg x=some u/\bf v u/\∀B,Is K B v c
def KD (w:World)(K:Frag)(mg:SV)(x:Str)(c:List (Str×D)):Prop:=∃d,mg x=some (.ref d)/\mS K w.params d c
def kc_of {x:Str}{c:D}{h:Heap}(X:K.In h)(G:h.Ns mainGlobals mg)(k:∃u v,nsIn K mainGlobals x=some (some u)/\bf v u/\∀B,Is K B v c):KC K mg x c:=let ⟨u,v,e,r⟩:=k;⟨u,v,mg_of X G e,r⟩
def kd_of {x:Str}{c:List (Str×D)}{h:Heap}(X:K.In h)(G:h.Ns mainGlobals mg)(k:∃d,nsIn K mainGlobals x=some (some (.ref d))/\mS K w.params d c):KD w K mg x c:=let ⟨d,e,r⟩:=k;⟨d,mg_of X G e,r⟩
def cJ.fqL {x:Str}{st:Stmt}{k:Nat}{O:LD->OB}(F:cJ K x st)(B:∃h,K.In h/\h.Ns mainGlobals mg)(g:FS)(N:LS)(n:Nat)
  (hb:∀ {f:Addr}{cW:Value}{A:Around}{outer:List PySem.Env}{s:Shared}{H:Hp}{E:XK},N.Nodup->eV k (A.deeper (envOfC x (aJ st) s.z f cW))->(A.deeper (envOfC x (aJ st) s.z f cW)).units+40<cLine->(∀c P,PySem.W.tabIn K x=some (c,P)->cW=.ref c)->um (oh xZ P w K mg base N x (aJ st) f cW A outer s H E).nox (cf st) g)
  (S:FnScope N (N.take n) (aJ st):=by refine⟨rfl,rfl,rfl,?_,rfl,?_,?_⟩<;>decide +kernel)
  (M:∀(kV doc pm:Value)(an:Option Addr)(cW ct:Value)(us:LU),us.length=(N.take n).length->bindArgs (fnOf x x (dN st) (cf st) (aJ st) .none kV doc pm an cW ct) ⟨us,[]⟩=pure ((N.take n).zip us):=by
   exact λ_ _ _ _ _ _=>GK _ _ (by(repeat intro);rfl))
  (e:aE g (N.take n).length (N.length - (N.take n).length)=O:=by rfl):
  Fn P w K mg base (k+1) x O:=let ⟨_,X,G⟩:=B;e ▸ F.fnL X G S M λ_ _ _ _ _ _ _ hc T=>hb S.nd T (DJ T) hc
def cJ.fq {x:Str}{st:Stmt}{k:Nat}{M:LD->OB}(F:cJ K x st)(B:∃h,K.In h/\h.Ns mainGlobals mg)(g:FS)(N:LS)(n:Nat)
  (hb:∀ {f:Addr}{cW:Value}{A:Around}{outer:List PySem.Env}{s:Shared}{H:Hp}{E:XK},N.Nodup->eV k (A.deeper (envOfC x (aJ st) s.z f cW))->(A.deeper (envOfC x (aJ st) s.z f cW)).units+40<cLine->um (oh xZ P w K mg base N x (aJ st) f cW A outer s H E).nox (cf st) g)
  (S:FnScope N (N.take n) (aJ st):=by refine⟨rfl,rfl,rfl,?_,rfl,?_,?_⟩<;>decide +kernel)
  (G:∀(kV doc pm:Value)(an:Option Addr)(cW ct:Value)(us:LU),us.length=(N.take n).length->bindArgs (fnOf x x (dN st) (cf st) (aJ st) .none kV doc pm an cW ct) ⟨us,[]⟩=pure ((N.take n).zip us):=by
   exact λ_ _ _ _ _ _=>GK _ _ (by(repeat intro);rfl))
  (e:aE g (N.take n).length (N.length - (N.take n).length)=M:=by rfl):
  Fn P w K mg base (k+1) x M:=F.fqL B g N n (λn r u _=>hb n r u) S G e
end
section
variable {X:Cx}{x:Str}{pos:Pos}
def C9 (i:Nat)(G:X.N.Nodup)(hi:X.N[i]? = some x:=by rfl)(hx:Ia X.env.scope x:=by first|exact Or.inl rfl|exact Or.inr rfl)(hf:X.fn x=true\/X.env.scope.names.lookup x=some .local:=by first|exact .inl rfl|exact .inr rfl):PG X (.Name x pos) (jW i):=BG G hi hx hf
def Om {fp}(i:Nat)(G:N'.Nodup:=by decide +kernel)(hi:(jf X N' scope cl C s H fp).N[i]? = some x:=by rfl)(hx:Ia (jf X N' scope cl C s H fp).env.scope x:=by exact Or.inl rfl)(hf:(jf X N' scope cl C s H fp).fn x=true\/(jf X N' scope cl C s H fp).env.scope.names.lookup x=some .local:=by first|exact .inl rfl|exact .inr rfl):PG (jf X N' scope cl C s H fp) (.Name x pos) (jW i):=BG G hi hx hf
def ge (N':LS)(hi:JI X tg U fi)(hc:∀ {C s H fp},JC (jf X N' scope (dW scope.names X.env.cells []) C s H fp) BD fc)(he:∀ {C s H fp},JE (jf X N' scope (dW scope.names X.env.cells []) C s H fp) xY fe)
  (M:Le X.K nT qy g:=by first|exact yr (by decide)|exact Ln (by decide)) (O:∀ {C s H fp},PG (jf X N' scope (dW scope.names X.env.cells []) C s H fp) tg g:=by intros;first|exact Om 0|exact w6 rfl (gE (Om 0) (gE (Om 1) qe)))
  (T:nX X N' scope (dW scope.names X.env.cells []) nT cap:=by repeat first|exact .nil rfl|refine Ul rfl rfl ?_)
  (S:CompSc X scope (dW scope.names X.env.cells []):=by exact P9) (G:X.calm=true:=by rfl)
  (hs:∀x,foldedSetIterable U X.env x=pure x:=by intro _;rfl):
  JE X (.ListComp xY [⟨tg,U,BD,0⟩] scope pos) (bS fi nT cap qy fc fe):=IY G S T hi (λ_ _ _ _=>O) M (λ_ _ _ _=>hc) (λ_ _ _ _=>he) hs
def lQ (N':LS)(U:X.N.Nodup)(hi:JI X tg gA fi)(hc:∀ {C s H fp},JC (jf X N' scope (dW scope.names X.env.cells []) C s H fp) BD fc)(he:∀ {C s H fp},JE (jf X N' scope (dW scope.names X.env.cells []) C s H fp) xY fe)
  (M:Le X.K nT qy g:=by first|exact yr (by decide)|exact Ln (by decide)) (a:∀ {C s H fp},PG (jf X N' scope (dW scope.names X.env.cells []) C s H fp) tg g:=by intros;first|exact Om 0|exact w6 rfl (gE (Om 0) (gE (Om 1) qe)))
  (b:nX X N' scope (dW scope.names X.env.cells []) nT cap:=by repeat first|exact .nil rfl|refine Ul rfl rfl ?_)
  (O:X.N[i]? = some y:=by rfl) (hy:X.env.kindOf y=some .local:=by rfl)
  (T:swapsWith (.ListComp xY [⟨tg,gA,BD,0⟩] scope pos) (some (.Name y py)) spos.line X.env=pure true:=by rfl)
  (S:CompSc X scope (dW scope.names X.env.cells []):=by exact P9) (G:X.calm=true:=by rfl)
  (hs:∀x,foldedSetIterable gA X.env x=pure x:=by intro _;rfl):
  JS X (.Assign [.Name y py] (.ListComp xY [⟨tg,gA,BD,0⟩] scope pos) spos) (br i (bS fi nT cap qy fc fe)):=IZ G U O hy T S b hi (λ_ _ _ _=>a) M (λ_ _ _ _=>hc) (λ_ _ _ _=>he) hs
def lR (hi:JI X tg T fi)(G:PG X tg t)(M:IV X.K U t)(hb:um X O g)(hp:PassesOwn (model X.prog X.w) X.A X.env X.xe:=by exact PassesOwn.never)(hc:X.calm=true:=by rfl)
  (hs:∀x,foldedSetIterable T X.env x=pure x:=by intro _;rfl):JS X (.For tg T O [] pos) (lL fi U g):=MD hp hc hi G M hb hs
def Ls (hi:PI X tg T (QU X.K fi))(G:PG X tg t)(M:IV X.K U t)(hb:um X O g)(hp:PassesOwn (model X.prog X.w) X.A X.env X.xe:=by exact PassesOwn.never)(hc:X.calm=true:=by rfl)
  (hs:∀x,foldedSetIterable T X.env x=pure x:=by intro _;rfl):JS X (.For tg T O [] pos) (qF fi U g):=Jf hp hc hi G M hb hs
end
end DL
namespace DL
open PySem PySem.Spec PySem.W PyProof.Rows L2
def rC:entryFor table "dict_itemiterator.__iter__" = some Builtin.«dict_keyiterator.__iter__»:=entryFor_alias (id':="dict_keyiterator.__iter__") (by kernel_rfl) rfl (by decide +kernel) (by kernel_rfl)
def xA (he:IsItemIter s.heap it d i n M ok O)(h:Q (.ref it) s):wpAny (model prog w) A (pyIter (.ref it)) Q E s:=by
 have G:s.TypeIs (.ref it) "dict_itemiterator":=⟨_,he,rfl⟩;refine wpAny_pyIter_slot G PySem.F.slot_dict_itemiterator_iter (wpAny_call_entry PySem.F.slot_dict_itemiterator_iter G rC ?_ (PySem.F.args_dict_itemiterator_iter_1 _));show wpAny _ _ (ret (.ref it)) _ _ s;exact wY ⟨_,rfl,"dict_itemiterator",_,G,PySem.F.slot_dict_itemiterator_next.lookup,h⟩
noncomputable def Se (a:Addr)(aK:List (eK×V))(ob:Obj):It:=⟨λi H=>H a=some (.dK aK ob)/\i<aK.length,λi H y H'=>∃T k v,y=.ref T/\H T=none/\H'=upd H T (.tup [kV k,v])/\aK[i]? = some (k,v),λi H=>H a=some (.dK aK ob)/\aK.length<=i⟩
def Bi {P:Program}{w:World}{K:Frag}{es:QD}{p:Nat}{pt:Pos}(a it:Addr)(aK:List (eK×V))(ob:Obj){ds:Array DictEntry}{l:Nat}(hd:ob.data=.dict ds l):Turn P w K (.Tuple es p pt) (Se a aK ob) [it] it (λi h=>∃ok G,IsItemIter h it a i aK.length l ok G) where
 mem:=by simp
 obj:=λi h st b hb=>by
  have e:b=it:=by simpa using hb
  subst e;obtain⟨ok,G,e⟩:=st;exact⟨_,e,λv z=>by cases z⟩
 keep:=λi h h' st k=>let ⟨ok,G,e⟩:=st;⟨ok,G,k it (by simp) _ e⟩
 item:=by
  intro X c hw d hc i ah s σ H E I hf st f;subst c hw d;obtain⟨ok,G,he⟩:=st;obtain⟨g,M⟩:=f;obtain⟨vs,r,m⟩:=rA I.hok g hd;have hl:vs.length=aK.length:=(Paired.length r).symm;obtain⟨u,hu,ru⟩:=r.get (k:=aK[i].1) (x:=aK[i].2) (vU M);have fresh:H s.z=none:=I.hok.fresh (vT _);have O:it≠s.z:=vS (vX he);refine wpAny_pyNext_items_item (by rw[hl];exact he) m hu λj h' T n t hsz hk=>?_;rw[hl]at n;refine⟨_,rfl,wpAny_letOwnedTupleGo_items (s:={ s with heap:=h' }) n λh2 y s2=>?_⟩;have U:Heap.SameBut it h' h2:=s2;have A:∀b o,b∉[it]->s.heap.get? b=some o->h2.get? b=some o:=λb o hb q=>U.extBut _ _ (λz=>hb (by simp[z])) (hk b o (λz=>hb (by simp[z])) q);have new:bI X.prog X.w (upd H s.z (.tup [kV aK[i].1,aK[i].2])) h2 s.z (.tup [kV aK[i].1,aK[i].2]):=⟨by show 2<=sizeLine;decide,[j,u],.cons (P5 T) (.cons ru .nil),⟨_,U.extBut _ _ O.symm t,rfl,_,rfl⟩⟩;refine⟨.ref s.z,upd H s.z (.tup [kV aK[i].1,aK[i].2]),Ci (s:=s) (t':=s.toks) I hf A (vT _) new,rfl,⟨_,aK[i].1,aK[i].2,rfl,fresh,rfl,vU M⟩,⟨_,_,y⟩,λb hb=>?_⟩;have B:b≠s.z:=by
   have e:b=it:=by simpa using hb
   rw[e];exact O
  rw[aG B];exact(hf b hb).1
 done:=by
  intro X c hw d hc i ah s σ H E I hf st f;subst c hw d;obtain⟨ok,G,he⟩:=st;obtain⟨g,C⟩:=f;obtain⟨vs,r,m⟩:=rA I.hok g hd;have hl:vs.length=aK.length:=(Paired.length r).symm;exact wpAny_pyNext_items_end (I.ok.hd hc) (by rw[hl];exact he) m (getElem?_eq_none (by omega)) λh' hk=>⟨rfl,jK (t':=s.toks) I hf λb o hb q=>hk b o (λz=>hb (by simp[z])) q⟩
 self:=λ_ _ _ _ _ st h=>let ⟨_,_,he⟩:=st;xA he h
section
variable {X:Cx}{es:QD}{kt:Nat}{pt:Pos}{e:Expr}
def Sf (M:TE):TI:=λσ H R=>M σ H λx G=>∃a aK ob,x=.ref a/\G a=some (.dK aK ob)/\R (Se a aK ob) G
def GL {o:Expr}{d:TE}{dL cB:Pos}(i:PE X o d)(G:attributeBase o "items" X.env (eval o X.env)=eval o X.env:=by rfl)(M:(dL.endLine == cB.line)=true:=by rfl):PI X (.Tuple es kt pt) (.Call (.Attribute o "items" dL) [] [] cB) (Sf d):=by
 intro ah s σ H R I h;refine wpAny_Call_method0_late G M (cA (i ah s σ H _ I h) λv s1 ⟨x,f,O,g,a,aK,ob,ex,U,q⟩=>?_);subst ex;obtain⟨h1,h2⟩:=A8 O g (T:="dict") (.inr (.inr (.inl ⟨rfl,.inl ⟨aK,ob,U⟩⟩)));cases g
 obtain⟨es,j,hd⟩:=x0 O.hok U;obtain⟨vs,r,m⟩:=rA O.hok U hd;have hl:vs.length=aK.length:=(Paired.length r).symm;refine⟨"dict","dict.items",plainAttrs_dict,PySem.F.slot_dict_items,PySem.F.type_dict_items,h1,h2,Calls.callWith_builtin rfl (PySem.evalArgs_none ?_)⟩;refine call_meetsIn PySem.F.slot_dict_items h1 PySem.F.entry_dict_items (PySem.F.args_dict_items_1 _) (meets_dict_items (cy X.prog X.w) a (qD O.hok U).2.1) ⟨⟨vs,m.dictOf⟩,?_⟩;have c:Inv X ah σ f { s1 with heap:=s1.heap.push { cls:=.type "dict_items",data:=.fields #[.ref a] } }:=O.kept (t':=s1.toks) λb o e=>vZ _ e;refine wpAny_pyIter_items (v:=s1.z) ⟨_,vY _ rfl,rfl,rfl⟩ (m.keep λb o e=>vZ _ e) ?_;rw[hl];refine⟨(s1.heap.push { cls:=.type "dict_items",data:=.fields #[.ref a] }).objs.size,[(s1.heap.push { cls:=.type "dict_items",data:=.fields #[.ref a] }).objs.size],_,_,f,rfl,c.kept (t':=s1.toks) λb o e=>vZ _ e,Bi a _ aK ob hd,⟨_,_,vY _ rfl⟩,λb hb=>?_,q⟩;have e:b=(s1.heap.push { cls:=.type "dict_items",data:=.fields #[.ref a] }).objs.size:=by simpa using hb
 subst e;exact c.fpOk (vT _) (c.hok.fresh (vT _))
noncomputable def mr (ks:LK)(ds:LD):LD:=(ks.zip ds).map λx=>.tup [kD x.1,x.2]
def GN {K:Frag}{B:Hp}{a:Addr}{ks:LK}{vs:LV}{ds:LD}{ob:Obj}(h:B a=some (.dK (ks.zip vs) ob))(hl:ks.length=vs.length)(hs:IsL K B vs ds):mO K (Se a (ks.zip vs) ob) B (mr ks ds):=by
 intro i H s;have hz:(ks.zip vs).length=vs.length:=by rw[length_zip];omega
 have hn:=hs.length;refine⟨λd ed=>?_,λG=>⟨s _ _ h,by unfold mr at G;rw[vI,length_zip]at G;omega⟩⟩;unfold mr at ed;rw[vA]at ed;obtain⟨⟨k0,d0⟩,ek,rfl⟩:=oY ed;obtain⟨c,e2⟩:=getElem?_zip_eq_some.mp ek;obtain⟨v,O,iv⟩:=hs.get e2;have M:i<vs.length:=(vV O).1;refine⟨⟨s _ _ h,by rw[hz];exact M⟩,λy j hy=>?_⟩;obtain⟨T,k,f,rfl,g,rfl,e⟩:=hy;obtain⟨g1,U⟩:=getElem?_zip_eq_some.mp e;rw[c]at g1;cases g1;rw[O]at U;cases U;have b:=Ext.laid (o:=.tup [kV k0,f]) s g;exact⟨_,b,.tup (iP.of aB) (.cons (P8 _) (.cons (iv.mono b.bn) .nil))⟩
@[simp] def CA (f:FE):FA:=λρ=>(f ρ).bind λx=>match x.1 with|.dk ks ds=>some (mr ks ds)|_=>none
def GO (h:JE X e f)(G:attributeBase e "items" X.env (eval e X.env)=eval e X.env:=by rfl)(M:(dL.endLine == cB.line)=true:=by rfl):JI X (.Tuple es kt pt) (.Call (.Attribute e "items" dL) [] [] cB) (CA f):=by
 intro ah s σ H R I q;obtain⟨B,ρ,ds,T,r,U,q⟩:=q;obtain⟨⟨xd,c⟩,ex,es⟩:=oX U;cases xd<;>try (cases es;done)
 cases es
 refine GL h G M ah s σ H R I ⟨B,ρ,_,_,T,r,ex,λv b N1 O i1 _=>?_⟩;cases i1 with
 |@dk a ks vs ds ob hd hl hs=>exact⟨a,_,ob,rfl,O.nh _ _ hd,q _ b N1 O (GN hd hl hs)⟩
end
section
variable {K:Frag}{E:Ends}{σ:St}{H:Hp}
def rE (i:Nat)(M O:FE):FS:=λρ=>match ρ[i]? with
 |some (some (.dk ks vs,true))=>(O (gP ρ)).bind λv=>(M ρ).bind λk=>(lP k.1).bind λG=>if ks.length<sizeLine then some (.nx (ρ.set i (some (.dk (h8 ks G) (fm ks vs G v.1),true))))else none
 |_=>none
def Ep (q:nZ K (rE i fk fv) E σ H):BO (pV i) (tD K fk) (tD K fv) E σ H:=by
 obtain⟨B0,H0,ρ,r,⟨N,s⟩,e,p⟩:=q;unfold rE at e;split at e
 ·rename_i ks ds ei;obtain⟨v,M,e⟩:=oX e;obtain⟨k,ek,e⟩:=oX e;obtain⟨O,hk,e⟩:=oX e;split at e
  ·rename_i hx;cases e
   refine⟨dP N (own σ ρ),gP ρ,v.1,v.2,bZ.trans s.ext.nh,s.repH,M,λb d N1 T i1 _=>?_⟩;obtain⟨s1,c⟩:=s.growH T;obtain⟨a,o,h1,h2,h3,h4⟩:=s1.ow i _ ei;refine⟨.ref a,h1,_,ρ,k.1,k.2,s1.ext.nh,s1.rep,ek,λf H2 N2 G i2 _=>?_⟩;have s2:=s1.grow G;have hv:=uO i2 hk;subst hv;obtain⟨g,o',k1,k2,k3,k4⟩:=s2.ow i _ ei;rw[h1]at k1;cases k1
   cases k4 with
   |@dk ks vs ds hl h5 ob=>
    refine⟨a,rfl,.inl ⟨_,O,_,s2.ext.nh _ _ k2,rfl,?_,λU=>?_⟩⟩
    ·rw[length_zip];omega
    ·rw[qm hl];exact p σ _ ⟨_,s2.writeB ei h1 (.dk (nu hl _ _) (h5.put ((i1.mono c).mono (eW λa o e q=>⟨G.bn a o e,q⟩))))⟩
  ·cases e
 ·cases e
end
section
variable {X:Cx}{pos:Pos}{e k:Expr}
def GP (hu:X.A.units+1<cLine)(hv:JE X e T)(hk:JE X k U)(O:X.N[i]? = some y:=by rfl)(G:NW X.env.scope y:=by first|exact Or.inl rfl|exact Or.inr (Or.inl rfl)|exact Or.inr (Or.inr rfl))(hd:(y == ("__debug__" : Str))=false:=by decide)
  (M:(y == ("__classdict__" : Str))=false:=by decide) (hs:swapsWith e (some (.Subscript (.Name y py) k pt)) pos.line X.env=pure false:=by rfl):JS X (.Assign [.Subscript (.Name y py) k pt] e pos) (rE i U T) :=
 PS.to (wK hu (wz O G hd M) hk hv hs) λ_ _ _ q=>Ep q
end
section
variable {prog:Program}{w:World}{A:Around}{E:QV}{s:Shared}
theorem CB:∀(vs:LU)(ns:LI),vs.length=ns.length->(∀(i:Nat)(v:Value),vs[i]? = some v->∃(m:Int)(t:Tok),ns[i]? = some m/\v=Value.int m t)->IntsAre vs ns
 |[],[],_,_=>.nil
 |v::vs,n::ns,h,k=>by
  obtain⟨m,t,e,rfl⟩:=k 0 v rfl;cases (show some n=some m from e)
  exact .cons n t (CB vs ns (by simpa using h) λi v hv=>k (i+1) v hv)
def zm (hh:A.handled=none)(lo:(a == sysModules)=false)(hm:s.heap.DictAt (cy prog w) a aK ep)(hk:aK.map (·.1)=ns.map .inl)(f:ns.length<64)
  (g:∀(h1 h':Heap)(tk:Nat)(b:Addr)(out:AV)(n:Nat)(M:LI),(∀c u,s.heap.get? c=some u->h1.get? c=some u)->(∀c u,h1.get? c=some u->h'.get? c=some u)->h1.objs.size<=b->h'.get? b=some (seqObj "list" out n) ->
   IntsAre out.toList M->M.Perm ns->M.Pairwise (·<=·)->Q (.ref b) { s with heap:=h',toks:=tk }):
  wpAny (model prog w) A (call (.builtin "sorted") [.ref a]) Q E s:=by
 refine Calls.call_function_entry kind_sorted plain_sorted entry_sorted (args_sorted1 _) ?_;unfold Builtin.«sorted»;refine wX (m:=checkCount "sorted" 1 1 _) (wY ?_);have h:aK.length=ns.length:=by have:=congrArg List.length hk;simpa using this
 refine wX (kdu_collect (A:=A.in1) (kdl_dict lo) (by exact hh) hm (by rw[sizeLine_eq];omega) λh1 tk G T O=>?_);have U:G.toList.length=ns.length:=by rw[vG,O.1,h]
 have j:IntsAre G.toList ns:=CB G.toList ns U λi v hv=>by
  obtain⟨k,x,l,e2⟩:=O.2 i v (by simpa using hv);have e:(aK.map (·.1))[i]? = some k:=by rw[vA,l];rfl
  rw[hk,vA]at e;obtain⟨m,o,rfl⟩:=oY e;obtain⟨t,rfl⟩:=Value.isInt_shape (k:=m) (v:=v) e2;exact⟨m,t,o,rfl⟩
 refine wX (wpAny_newList ?_ (by rw[U,sizeLine_eq];omega));have d:(h1.push (seqObj "list" G.toList.toArray 0)).get? h1.objs.size=some (seqObj "list" G.toList.toArray 0):=vY _ rfl;show wpAny _ _ _ _ _ { s with heap:=h1.push (seqObj "list" G.toList.toArray 0),toks:=tk };refine wX (wpAny_holding (wpAny_call_entry slot_list_sort ⟨_,d,rfl⟩ entry_list_sort (list_sort_tree d j (by rw[U];exact f) λout M p r y=>⟨_,rfl,?_⟩) (args_list_sort _)));obtain⟨n,he⟩:=sortedHeap_at (out:=out) d;refine wY ⟨_,rfl,g h1 _ _ _ out n M T (λb u q=>?_) (vT _) he p r y⟩;have hl:=vX q;rw[sortedHeap_old (vS hl) (by rw[size_push'];exact lt_succ_of_lt hl)];exact vZ _ q
end
noncomputable def vh:LK->Option LI
 |[]=>some []
 |.inl n::ks=>(vh ks).map (n :: ·)
 |.inr _::_=>none
theorem zn:∀ {ks:LK}{ns:LI},vh ks=some ns->ks=ns.map .inl
 |[],_,h=>by cases h;rfl
 |.inl n::ks,_,h=>by
  obtain⟨r,h1,rfl⟩:=oY h;rw[zn h1];rfl
 |.inr _::_,_,h=>by cases h
def JG {aK:List (eK×V)}{vs:List (eK×Value)}(r:KV aK vs):vs.map (·.1)=aK.map (·.1):=by
 unfold KV at r;induction r with
 |nil=>rfl
 |cons h t G=>rw[uY,uY,G,h.1]
@[simp] def j6:LD->OB
 |[.dk ks _]=>(vh ks).bind λns=>if ns.length<64 then some (.lst ((nj ns).map .int),true)else none
 |_=>none
section
variable {X:Cx}
def Er (hc:X.calm=true):cr X (.builtin "sorted") (BQ X.K j6):=by
 intro ah s σ H xs us Q I r h;obtain⟨B,dl,d,bb,c,i,G,q⟩:=h;cases i with
 |nil=>simp[j6]at G
 |cons i1 i2=>
  cases i2 with
  |cons _ _=>cases i1<;>simp[j6]at G
  |nil=>
   cases i1 with
   |@dk a ks vs ds ob hd hl hs=>
    obtain⟨u,rfl,g⟩:=iq r;cases g
    simp only[j6]at G;obtain⟨ns,en,G⟩:=oX G;split at G
    ·rename_i O;cases G
     have T:=c _ _ hd;obtain⟨es,y,U⟩:=x0 I.hok T;obtain⟨j,k,m⟩:=rA I.hok T U;have l:j.map (·.1)=ns.map .inl:=by rw[JG k,List.map_fst_zip (by omega),zn en]
     refine zm (I.ok.hd hc) (qD I.hok T).2.1 m l O λh1 h' tk b out n p k1 k2 hb he t M v=>?_;have e:=ze M v;subst e;have f:Inv X ah σ H { s with heap:=h1,toks:=tk }:=uG I k1 rfl rfl;have hf:H b=none:=f.hok.fresh hb;have x:=Ext.laid (o:=.lst ((nj ns).map V.int)) c hf;exact⟨.ref b,_,f.laid (t':=tk) k2 hb (show bI X.prog X.w _ h' _ (.lst ((nj ns).map V.int))from ⟨by rw[vI];unfold nj;rw[(aZ _ ns).length_eq,sizeLine_eq];omega,out.toList,n,ib t,he⟩),rfl,q _ _ _ x (.lst (gN.of aB) (no _)) λ_=>⟨_,_,_,rfl,rfl,hf,aB,no _⟩⟩
    ·cases G
   |_=>simp[j6]at G
def Nc (hu:X.A.units+1<cLine)(hi:JE X i fi)(T:JE X o fo)(hm:behindInMarks .In o=false:=by first|exact kj _ (by decide) (by decide)|rfl):JE X (.Compare i [.In] [o] pos) (f2 QZ fi fo):=by
 refine PE.to (LQ (Mx hu hi T) hm) λσ H Q q=>?_;obtain⟨B,ρ,d,bb,U,r,G,q⟩:=q;obtain⟨y,b,G⟩:=oX G;obtain⟨x,ex,G⟩:=oX G;refine⟨B,ρ,y.1,y.2,U,r,b,λc e N1 M i2 _=>⟨N1,ρ,x.1,x.2,M.nh,r.mono M.bn,ex,λv H2 N2 O i1 f=>?_⟩⟩;obtain⟨xd,g⟩:=x;cases i1 with
 |@dk a ks vs ds ob h hl hs=>
  simp only[QZ]at G;obtain⟨k,hk,G⟩:=oY G;cases G
  have hv:=uO i2 hk;subst hv;refine⟨a,lK (ks.zip vs) k,rfl,.inl ⟨_,k,_,.inl (O.nh _ _ h),rfl,rfl⟩,?_⟩;rw[Ef hl hs];exact(q.into (M.trans O)).one O.nh (.bl _)
 |_=>simp[QZ]at G
end
end DL
namespace DL
open PySem PySem.Spec PyProof.Rows L2
@[simp] abbrev fV (i:Nat)(g:FA):FA:=ag (am i) g
@[simp] abbrev fI (n:Int):FE:=fC (.int n)
@[simp] abbrev fS (s:PySem.Str):FE:=fC (.str s)
section
variable {X:Cx}{es:QD}{g:FA}{pos:Pos}
def aM {x:Str}{p:Pos}(i:Nat)(G:JA X es g)(M:PE X (.Name x p) (pV i):=by exact pv)
  (hs:starEach (.Name x p::es) X.env=(false,eval (.Name x p) X.env)::starEach es X.env:=by rfl):JA X (.Name x p::es) (fV i g):=ai (ak i M) G hs
def fF {i:Int}{j:Nat}(G:JA X es g):JA X (.Constant (.int i) j pos::es) (ag (fC (.int i)) g):=ai a8 G
def a0 (F:Fn X.prog X.w X.K X.mg X.base k x f)(O:eV j X.A)(ha:JA X (e::es) g:=by repeat first|exact ao|refine aM _ ?_|refine ai a7 ?_)(hj:k<=j:=by decide)(T:Gl X x:=by rfl)(G:(x == ("__debug__" : Str))=false:=by decide)(he:starEach (e::es) X.env=(false,eval e X.env)::starEach es X.env:=by rfl)(M:(backTo pos (starEach es X.env)).any (·.1)=false:=by rfl):JE X (.Call (.Name x p) (e::es) [] pos) (fA f g):=BU F (O.mono hj) ha T G he M
def aO (he:JE X e f):um X [.Return (some e) pos] (aF f):=bD (F7 he)
def bp {c:Expr}{G:FT}(hc:JT X c G)(he:JE X e f):JS X (.If c [.Return (some e) p] [] pos) (cO G (aF f) aN):=jY hc (bD (F7 he)) jF
def be (i:Nat)(G:PE X (.Name x p) (pV i):=by exact pv):JE X (.Subscript (.Name x p) (.Constant (.int n) j q) pos) (cx i n):=bd (ak i G) a8
end
@[simp] noncomputable def VI (j:Nat):D×Bool->Option LD
 | (.tup ds,true)=>match ds[j]? with
  |some (.lst es)=>some es
  |_=>none
 |_=>none
@[simp] def Yx (i:Nat)(f:FE)(G:FT)(g1:FS)(M:FT)(j:Nat)(fe:FE)(h2:FS):FS:=λρ=>(f (gP ρ)).bind λx=>match G (ρ.set i (some (x.1,false))) with
 |some true=>match g1 (ρ.set i (some (x.1,false))) with
  |some (.rt d b)=>some (.rt d b)
  |_=>none
 |some false=>match M (ρ.set i (some (x.1,false))) with
  |some false=>some (.nx (ρ.set i (some (x.1,false))))
  |some true=>(VI j x).bind λes=>(fe (ρ.set i (some (x.1,false)))).bind λy=>if i<ρ.length/\es.length<sizeLine then h2 (ρ.set i none)else none
  |none=>none
 |none=>none
def dR.two {K:Frag}{v w:V}{dx O:D}(s:dR K B0 H0 N H σ ρ)(i k:Nat)(T:Ext (dP N (own σ ρ)) N1 H H1)(i1:Is K N1 v dx)(G:Ext (dP N (own (σ.set i (some v)) (ρ.set i none))) N2 H1 H2)(i2:Is K N2 w O):∃N',dR K B0 H0 N' H2 ((σ.set i (some v)).set k (some w)) ((ρ.set i (some (dx,false))).set k (some (O,false))):=by
 obtain⟨s1,c⟩:=s.growH T;have s2:=s1.bind (i:=i) (i1.mono c);generalize g:join N N1=M at s1 s2 c;have U:aU M H1:=s1.ext.nh;have nm:aU N M:=by rw[<-g];exact dU
 have h:Ext M (join M N2) H1 H2:=by
  refine⟨G.hh,dU,λa o e=>?_,λa o e=>?_⟩
  ·unfold join at e;split at e
   ·rename_i u q;cases e
    exact G.hh _ _ (U _ _ q)
   ·exact G.nh _ _ e
  ·unfold join at e;split at e
   ·rename_i u q;cases e
    exact .inl q
   ·rename_i q;rcases G.new a o e with z|z
    ·exact .inl (nm _ _ (ko z).2)
    ·exact .inr z
 have l:=s2.grow h;refine⟨_,l.bind (i:=k) (i2.mono λb o e=>?_)⟩;have hj:join M N2 b=some o:=by
  unfold join;split
  ·rename_i u q;have h1:=G.hh _ _ (U _ _ q);rw[G.nh _ _ e]at h1;exact h1.symm
  ·exact e
 rw[cP λz=>?_]
 ·exact hj
 ·rcases qg z with⟨_,d',p⟩|⟨j,ne,d',d,f⟩
  ·cases p
  ·have m:own (σ.set i (some v)) (ρ.set i none) b:=⟨j,d',by rw[vB (Ne.symm ne)];exact d,by rw[vB (Ne.symm ne)];exact f⟩;rcases G.new b o e with z|z
   ·exact(ko z).1 m
   ·obtain⟨o',⟨n1,_⟩,_⟩:=s.owned ⟨j,d',d,f⟩;rw[T.hh _ _ (s.ext.nh _ _ n1)]at z;cases z
@[simp] def GQ (f g:FE):FE:=λρ=>(f ρ).bind λx=>(g ρ).bind λy=>match y with
 | (.lst ds,true)=>if b8 x.1=true then some (.tup [x.1,.lst ds],true)else none
 |_=>none
def JH {X:Cx}{e O:Expr}{T}(he:JE X e f)(h:JE X O g)(hs:starEach [e,O] X.env=(false,eval e X.env)::starEach [O] X.env:=by rfl)(i:starEach [O] X.env=(false,eval O X.env)::starEach [] X.env:=by rfl):JE X (.Tuple [e,O] T pos) (GQ f g):=by
 refine PE.to (A3 (eI he (eI h gO i) hs)) λσ H Q q=>?_;obtain⟨B,ρ,d',bb,k,r,G,q⟩:=q;obtain⟨x,ex,G⟩:=oX G;obtain⟨y,l,G⟩:=oX G;split at G
 ·rename_i ds;split at G
  ·rename_i hx;cases G
   refine⟨B,ρ,x.1,x.2,k,r,ex,λv n N1 T i1 _=>⟨N1,ρ,_,_,T.nh,r.mono T.bn,l,λw H2 N2 b i2 f2=>⟨(by decide:2<=sizeLine),λt m=>?_⟩⟩⟩;obtain⟨a,vs,p,rfl,z,h3,h4,h5⟩:=f2 rfl;cases z
   have U:=Ext.laid (o:=HO.tup [v,.ref a]) b.nh m;have c:=h5.mono U.bn;have n4:=U.bn _ _ h4;have d:IsL X.K (upd N2 t (.tup [v,.ref a])) [v,.ref a] [x.1,.lst ds]:=.cons (i1.mono (b.bn.trans U.bn)) (.cons (.lst (gN.of n4) c) .nil);refine q _ _ _ (T.trans (b.trans U)) (.tup (iP.of aB) d) λ_=>⟨t,_,rfl,iP.of aB,d,λj es M=>?_⟩;match j,M with
   |0,M=>simp at M;rw[M]at hx;simp at hx
   |1,M=>simp at M;subst M;exact⟨a,vs,rfl,T.hh.free h3,n4,c⟩
  ·cases G
 ·cases G
end DL
namespace L2
open PySem PySem.Spec PyProof.Rows
noncomputable def Sg (K:Frag)(a:Addr)(xs:List V):It:=⟨λi H=>gN K H a xs/\i<xs.length,λi H v H'=>H'=H/\xs[xs.length - 1 - i]? = some v,λi H=>gN K H a xs/\xs.length<=i⟩
def GS {P:Program}{w:World}{K:Frag}{tg:Expr}(a it:Addr)(xs:List V):Turn P w K tg (Sg K a xs) [it] it (λi h=>i<=xs.length/\h.IsRevIter it a ((xs.length:Int) - 1 - (i:Int))) where
 mem:=by simp
 obj:=λi h st b hb=>by
  have e:b=it:=by simpa using hb
  subst e;obtain⟨_,o,e,c,d⟩:=st;exact⟨o,e,λv z=>by rw[d]at z;cases z⟩
 keep:=λi h h' st k=>⟨st.1,st.2.at λo e=>k it (by simp) o e⟩
 item:=by
  intro X M hw O hc i ah s σ H E I hf st T;subst M hw O;obtain⟨hq,hi⟩:=T;obtain⟨x,hx⟩:∃x,xs[xs.length - 1 - i]? = some x:=⟨_,vU (by omega)⟩;obtain⟨its,U,p,hz⟩:=I.list hq;obtain⟨u,hu,ru⟩:=U.get hx;obtain⟨f0,f1,f2,f3,f4,f5⟩:=hf it (by simp);have tH:=st.2;rw[show(xs.length:Int) - 1 - (i:Int)=((xs.length - 1 - i:Nat):Int) by omega]at tH;refine wpAny_pyNext_rev_item tH p.isList (x:=u) (by simpa using hu) λh' G f=>?_;have g:Inv X ah σ H { s with heap:=h' }:=I.turned (t':=s.toks) (λb o hb e=>(f.2 b hb).trans e) f0 f1 f3 f4 f5;obtain⟨o,e,c,d⟩:=id G;refine⟨u,rfl,q9 (s:={ s with heap:=h' }) e c d (by decide) ⟨x,H,g,ru,⟨rfl,hx⟩,⟨by omega,?_⟩,λb hb=>(hf b hb).1⟩⟩;rw[show(xs.length:Int) - 1 - ((i+1:Nat):Int)=((xs.length - 1 - i:Nat):Int) - 1 by omega];exact G
 done:=by
  intro X M hw O hc i ah s σ H E I hf st T;subst M hw O;obtain⟨hq,hx⟩:=T;obtain⟨f0,f1,f2,f3,f4,f5⟩:=hf it (by simp);have tH:=st.2;rw[show(xs.length:Int) - 1 - (i:Int) = -1 by have:=st.1;omega]at tH;exact wpAny_pyNext_rev_end (I.ok.hd hc) tH λh' j=>⟨rfl,I.turned (t':=s.toks) (λb o hb e=>j b o hb e) f0 f1 f3 f4 f5⟩
 self:=λ_ _ _ _ _ st h=>wpAny_pyIter_revIter st.2 h
end L2
namespace DL
open PySem PySem.Spec PyProof.Rows L2
def Bj:bootBuiltins "reversed" = some (.type "reversed"):=by decide +kernel
@[simp] noncomputable def JJ (fa:FE):FA:=λρ=>(fa ρ).bind λx=>match x.1 with
 |.lst ds=>some ds.reverse
 |_=>none
def Nd {K:Frag}{N:Hp}{l:Addr}{vs:LV}{ds:LD}(h1:gN K N l vs)(i1:IsL K N vs ds):mO K (Sg K l vs) N ds.reverse:=by
 intro i H' G;have n1:=i1.length;refine⟨λd ed=>?_,λhl=>⟨G.seq h1,by rw[List.length_reverse]at hl;omega⟩⟩;have hi:i<ds.length:=by have:=(vV ed).1;rwa [List.length_reverse]at this
 rw[List.getElem?_reverse hi]at ed;obtain⟨v,M,iv⟩:=i1.get ed;refine⟨⟨G.seq h1,by omega⟩,λr H2 hy=>?_⟩;obtain⟨rfl,e⟩:=hy;rw[show vs.length - 1 - i=ds.length - 1 - i by omega,M]at e;cases e
 exact⟨N,.refl G,iv⟩
section
variable {X:Cx}{a e:Expr}{pos p:Pos}
def Nf {fa:FE}(hm:X.mg "reversed" = none)(ha:JE X a fa)(f:Gl X "reversed":=by rfl)(hs:starEach [a] X.env=[(false,eval a X.env)]:=by rfl):
  JI X tg (.Call (.Name "reversed" p) [a] [] pos) (JJ fa):=by
 intro ah s σ H R I q;refine Call_ (io I f hm Bj (PyProof.Rows.callWith_type1 (cA (ai ha ao hs pos ah s σ H (λvs G=>∃(l:Addr)(us:LV),vs=[.ref l]/\gN X.K G l us/\R (Sg X.K l us) G) I ?_) λus s1 ⟨vs,G,O,g,i⟩=>?_) hs rfl))
 ·obtain⟨B,ρ,ds,j,r,T,q⟩:=q;obtain⟨⟨xd,u⟩,ex,T⟩:=oX T;cases xd<;>try (cases T;done)
  rename_i U;cases T
  refine⟨B,ρ,[.lst U],j,r,by simp[ag,aj,ex],λvs G N1 c i1=>?_⟩;cases i1 with
  |cons k m=>
   cases m
   cases k
   rename_i l M h m1;exact⟨l,M,rfl,c.nh.seq h,q _ G N1 c (Nd h m1)⟩
 ·obtain⟨l,M,rfl,h1,q⟩:=i;obtain⟨v,rfl,n⟩:=g.one;cases n
  obtain⟨its,d,t,w⟩:=O.list h1;refine call_reversed_list t.isList ?_;have tH:Heap.IsRevIter (s1.heap.push (revObj l ((its.toArray.size:Int) - 1))) s1.z l ((its.toArray.size:Int) - 1):=⟨_,vY _ rfl,rfl,rfl⟩;refine wpAny_pyIter_revIter (s:={ s1 with heap:=s1.heap.push (revObj l ((its.toArray.size:Int) - 1)) }) tH ⟨s1.z,[s1.z],_,_,G,rfl,O.kept (t':=s1.toks) λb o e=>vZ _ e,GS l s1.z M,⟨uN _,?_⟩,λb hb=>?_,q⟩
  ·rw[vH,<-d.length]at tH;rw[show(M.length:Int) - 1 - ((0:Nat):Int)=(M.length:Int) - 1 by omega];rw[vH,<-d.length];exact tH
  ·have e:b=s1.z:=by simpa using hb
   subst e;exact O.fpOk (vT _) (O.hok.fresh (vT _))
def Ng (K:Frag):V->LV->Hp->VK->Prop:=λx vs H Q=>∃(l:Addr)(ns:LI)(n:Int),x=.ref l/\vs=[.int n]/\gN K H l (ns.map V.int)/\ns.findIdx (· == n)<ns.length/\Q (.int (ns.findIdx (· == n):Nat)) H
def GU:RM X "list.index" (Ng X.K):=by
 intro ah s σ H x vs v us Q I b c h;obtain⟨l,ns,n,rfl,rfl,d,hk,q⟩:=h;cases b
 obtain⟨u,rfl,⟨t,rfl⟩⟩:=c.one;obtain⟨its,r,⟨o,m,e,hc,O,hd⟩,z⟩:=I.list d;have hi:=rh r;have hl:=r.length;rw[vI]at hl z;have at':∀(i:Nat)(G:i<its.length),∃t',its[i]=.int (ns[i]'(by omega)) t':=λi G=>by
  obtain⟨t',M⟩:=IntsAre.int_at hi i its[i] (by simp);exact⟨t',by rw[M,vF,vU (by omega)];rfl⟩
 have hj:ns.findIdx (· == n)<its.toArray.size:=by simp only[vH];omega
 obtain⟨oc,od,g,lI⟩:=o;dsimp only at hc O hd;subst hc O hd;have hz:sizeLine<2 ^ 63 - 1:=by decide
 refine call_meets PySem.F.slot_list_index ⟨_,e,rfl⟩ PySem.F.entry_list_index (PySem.F.args_list_index_2 _ _)
  (PySem.SeqAt.list_indexAt l its.toArray m none lI (.int n t) (Px n) (ns.findIdx (· == n)) hj (by omega) ?_ (λi G T=>?_)) ⟨e,λy hy=>?_,?_⟩
 ·obtain⟨t',M⟩:=at' (ns.findIdx (· == n)) (by omega);simp only[List.getElem_toArray];rw[M];exact List.findIdx_getElem (p:=(· == n)) (w:=hk)
 ·have U:i<its.length:=by simpa using G
  obtain⟨t',M⟩:=at' i U;simp only[List.getElem_toArray];rw[M];have:=List.not_of_lt_findIdx (p:=(· == n)) (xs:=ns) T;simpa [Px]using this
 ·have f:y∈its:=by simpa using hy
  obtain⟨i,G,rfl⟩:=List.mem_iff_getElem.mp f;obtain⟨t',M⟩:=at' i G;rw[M];exact(MeetsSeq.EqGives.int _ _ _ _).at _ _
 ·exact⟨.int (ns.findIdx (· == n):Nat),H,I.tok _,⟨_,rfl⟩,q⟩
@[simp] def fG:D->D->OB
 |.lst ds,.int n=>(jz ds).bind λns=>if ns.findIdx (· == n)<ns.length then some (.int (ns.findIdx (· == n):Nat),false)else none
 |_,_=>none
def rF {dL cB:Pos}{fa f:FE}(ha:JE X a fa)(he:JE X e f)(M:attributeBase a "index" X.env (eval a X.env)=eval a X.env:=by rfl)
  (T:((backTo cB (starEach [e] X.env)).all (λx=>!x.1) && (backToKw cB (keywordEach [] X.env)).all (λx=>x.1.isSome)
   && decide ([e].length+([]:List Keyword).length+(if([]:List Keyword).isEmpty then 0 else 1)<30))=true:=by rfl)
  (O:(dL.endLine == cB.line)=true:=by rfl) (hs:starEach [e] X.env=[(false,eval e X.env)]:=by rfl):JE X (.Call (.Attribute a "index" dL) [e] [] cB) (f2 fG fa f):=by
 refine PE.to (BK plainAttrs_list PySem.F.slot_list_index PySem.F.type_list_index GU ha (eI he gO hs) M T O hs rfl) λσ H Q q=>?_;obtain⟨B,ρ,d,bb,g,r,G,iO⟩:=q;obtain⟨⟨xd,m⟩,ex,G⟩:=oX G;obtain⟨⟨i,o⟩,j,G⟩:=oX G;cases xd<;>try (cases G;done)
 rename_i ds;cases i<;>try (cases G;done)
 rename_i n;obtain⟨ns,en,G⟩:=oX G;split at G
 ·rename_i hk;cases G
  refine⟨B,ρ,_,_,g,r,ex,λv s N1 b i1 f1=>?_⟩;clear f1;cases i1
  rename_i l t h m1;have k:=Gk m1 en;subst k;refine⟨.inl ⟨rfl,_,b.nh.seq h⟩,N1,ρ,_,_,b.nh,r.mono b.bn,j,λw H2 N2 c i2 _=>?_⟩;cases i2
  have U:=b.trans c;exact⟨l,ns,n,rfl,rfl,c.nh.seq (c.bn.seq h),hk,(iO.into U).one U.nh (.int _)⟩
 ·cases G
end
def JL (K:Frag)(x:Str)(st:Stmt):Prop:=∃(f T:Addr)(oc:Value)(od an:Option Addr)(kV doc pm cW ct:Value)(lI:Array (Option Value))(G:Obj)(n:Nat),
 K.lookup f=some ⟨oc,od,.func (fnOf x x (dN st) (cf st) (aJ st) (.ref T) kV doc pm an cW ct),lI⟩/\PySem.W.codeIn K cW x=true/\PySem.W.keepIn K (.ref f)=true/\nsIn K mainGlobals x=some (some (.ref f))/\K.lookup T=some G/\G.data=.seq #[.none] n
def defD_mk {K:Frag}{x:Str}{st:Stmt}{f T:Addr}{oc M:Value}{od an O:Option Addr}{lI G:Array (Option Value)}{kV doc pm cW ct:Value}{n:Nat}(a:nsIn K mainGlobals x=some (some (.ref f)))
  (l:K.lookup f=some ⟨oc,od,.func (fnOf x x (dN st) (cf st) (aJ st) (.ref T) kV doc pm an cW ct),lI⟩) (c:PySem.W.codeIn K cW x=true) (k:PySem.W.keepIn K (.ref f)=true) (t:K.lookup T=some ⟨M,O,.seq #[.none] n,G⟩):JL K x st:=⟨f,T,oc,od,an,kV,doc,pm,cW,ct,lI,_,n,l,c,k,a,t,rfl⟩
structure FnD (P:Program)(w:World)(K:Frag)(mg:Str->Option Value)(base:Heap)(k:Nat)(x:Str)(f:List D->OB):Prop where
 ex:∃(ad:Addr)(fd:FuncData)(ps:List Str),nW P w K mg base xZ k ad fd ps (F8 K f)/\mg x=some (.ref ad)/\PySem.W.keepIn K (.ref ad)=true/\oZ K fd ps []/\oZ K fd ps [.none]
def FnD.fn {P:Program}{w:World}{K:Frag}{mg:SV}{base:Heap}(F:FnD P w K mg base k x f):Fn P w K mg base k x f:=let ⟨ad,fd,ps,h1,h2,h3,h4,_⟩:=F.ex;⟨ad,fd,ps,h1,h2,h3,h4⟩
section
variable {P:Program}{w:World}{K:Frag}{mg:SV}{base:Heap}
def JL.fqD {x:Str}{st:Stmt}{k:Nat}{p:LD->OB}(F:JL K x st)(B:∃h,K.In h/\h.Ns mainGlobals mg)(g:FS)(N:LS)(n:Nat)
  (hb:∀ {f:Addr}{cW:Value}{A:Around}{outer:List PySem.Env}{s:Shared}{H:Hp}{E:XK},N.Nodup->eV k (A.deeper (envOfC x (aJ st) s.z f cW))->(A.deeper (envOfC x (aJ st) s.z f cW)).units+40<cLine->um (oh xZ P w K mg base N x (aJ st) f cW A outer s H E).nox (cf st) g)
  (S:FnScope N (N.take n) (aJ st):=by refine⟨rfl,rfl,rfl,?_,rfl,?_,?_⟩<;>decide +kernel)
  (U:∀(T:Addr)(kV doc pm:Value)(an:Option Addr)(cW ct:Value)(us:LU),us.length=(N.take n).length->∃O,bindArgs (fnOf x x (dN st) (cf st) (aJ st) (.ref T) kV doc pm an cW ct) ⟨us,[]⟩=seqItems? (.ref T)>>=O/\O (some #[.none])=pure ((N.take n).zip us):=by
   exact λ_ _ _ _ _ _ _=>GK _ _ (by(repeat intro);exact⟨_,rfl,rfl⟩))
  (hb1:∀(T:Addr)(kV doc pm:Value)(an:Option Addr)(cW ct:Value)(us:LU),us.length=(N.take n).length - 1->∃O,bindArgs (fnOf x x (dN st) (cf st) (aJ st) (.ref T) kV doc pm an cW ct) ⟨us,[]⟩=seqItems? (.ref T)>>=O/\O (some #[.none])=pure ((N.take n).zip (us++[.none])):=by
   exact λ_ _ _ _ _ _ _=>GK _ _ (by(repeat intro);exact⟨_,rfl,rfl⟩))
  (e:aE g (N.take n).length (N.length - (N.take n).length)=p:=by rfl):FnD P w K mg base (k+1) x p:=by
 subst e;obtain⟨h,X,G⟩:=B;obtain⟨f,T,oc,od,an,kV,doc,pm,cW,ct,lI,I,m,t,u,kp,a,lt,dt⟩:=F;have len:∀vs H Q E,F8 K (aE g (N.take n).length (N.length - (N.take n).length)) vs H Q E->vs.length=(N.take n).length:=λvs H Q E h=>by
  obtain⟨B,ds,d,b,c,i,e,q⟩:=h;unfold aE at e;split at e
  ·rename_i hl;rw[i.length];exact hl
  ·cases e
 refine⟨f,_,N.take n,Fe t u S len λA outer s H vs Q E r h=>⟨_,tI.nox (hb S.nd r (DJ r)),?_⟩,mg_of X G a,kp,λs us j hl=>?_,λs us j hl=>?_⟩
 ·have M:=len vs H Q E h;obtain⟨B,ds,d,b,c,i,e,q⟩:=h;unfold aE at e;rw[if_pos (by rw[<-i.length];exact M)]at e;have l:=qK (N:=N) c.1 c.2 i;rw[M]at l;split at e
  ·rename_i d' J o;cases e
   exact⟨B,H,_,_,⟨B,l⟩,o,λv H' N' y z C=>q v H' N' y z C⟩
  ·rename_i ρ' o;cases e
   exact⟨B,H,_,_,⟨B,l⟩,o,λD H' ⟨N',s'⟩=>q _ _ _ s'.ext .non (by simp)⟩
  ·cases e
 ·rw[uQ]at hl |-;obtain⟨O,h1,h2⟩:=U T kV doc pm an cW ct us hl;exact .of_defaults rfl (j _ _ lt) dt h1 h2
 ·rw[uZ,length_singleton]at hl;obtain⟨O,h1,h2⟩:=hb1 T kV doc pm an cW ct us (by omega);exact .of_defaults rfl (j _ _ lt) dt h1 h2
end
end DL
namespace DL
open PySem L2
def gI (I:Nat->Env->Prop)(ds:LD)(M:Env)(h0:I 0 M)
  (step:∀i d ρ,ds[i]? = some d->I i ρ->∃G ρ',tg d ρ=some G/\(g G=some (.nx ρ')\/g G=some (.ct ρ'))/\I (i+1) ρ'):
  ∃ρ',gg tg g ds M=some (.nx ρ')/\I ds.length ρ':=by
 have O:∀(es:LD)(i:Nat)(ρ:Env),ds.drop i=es->i+es.length=ds.length->I i ρ->∃ρ',gg tg g es ρ=some (.nx ρ')/\I ds.length ρ':=by
  intro es;induction es with
  |nil=>intro i ρ e hl h;refine⟨ρ,by rw[kq],?_⟩;rw[<-hl];exact h
  |cons d es U=>
   intro i ρ e hl h;have hd:ds[i]? = some d:=by
    have:(ds.drop i)[0]? = some d:=by rw[e];rfl
    rwa [List.getElem?_drop,Nat.add_zero]at this
   obtain⟨G,ρ',h1,h2,h3⟩:=step i d ρ hd h;have he:ds.drop (i+1)=es:=by rw[<-List.drop_drop,e];rfl
   obtain⟨T,k1,k2⟩:=U (i+1) ρ' he (by simp at hl;omega) h3;refine⟨T,?_,k2⟩;rw[ie,h1];rcases h2 with h2|h2<;>simp only[vJ,h2]<;>exact k1
 exact O ds 0 M (by simp) (by simp) h0
def zo (n:Nat)(I:Nat->Env->Prop)(G:Env)(h0:I 0 G)
  (step:∀(i:Nat) ρ,i<n->I i ρ->∃M ρ',tg (.int (i:Int)) ρ=some M/\(g M=some (.nx ρ')\/g M=some (.ct ρ'))/\I (i+1) ρ'):
  ∃ρ',gg tg g (jH 0 n) G=some (.nx ρ')/\I n ρ':=by
 have hl:(jH 0 n).length=n:=by simp[jH]
 obtain⟨ρ',h1,h2⟩:=gI (tg:=tg) (g:=g) I (jH 0 n) G h0 λi d ρ hd h=>by
  unfold jH at hd;rw[vA]at hd;obtain⟨k,hk,hd⟩:=oY hd;obtain⟨O,hk⟩:=vV hk;rw[length_range]at O;rw[List.getElem_range]at hk;subst hk;rw[Int.zero_add]at hd;subst hd;exact step i ρ O h
 rw[hl]at h2;exact⟨ρ',h1,h2⟩
def kK {α:Type}{xs:List α}{j:Nat}(h:j<xs.length):mH xs (j:Int)=some xs[j]:=IJ (by simp[h])
def xB {α:Type}{xs:List α}{i:Int}(h0:0<=i)(h:i.toNat<xs.length):mH xs i=some xs[i.toNat]:=by
 have:=kK h;rwa [Int.toNat_of_nonneg h0]at this
@[simp] def gJ (xs:LI):bB (xs.map D.int)=true:=by
 induction xs with
 |nil=>simp
 |cons x xs G=>simp[G]
@[simp] def Ig (n:Nat)(xs:LI):(xs.map D.int).all (aH n)=true:=by
 induction xs with
 |nil=>simp
 |cons x xs G=>simpa using G
@[simp] def JM (xs:LI):(xs.map D.int).all fQ=true:=by
 induction xs with
 |nil=>simp
 |cons x xs G=>simpa using G
mutual
def nv:D->D->Bool
 |.non,.non=>true
 |.bl a,.bl b=>a == b
 |.int a,.int b=>decide (a=b)
 |.str a,.str b=>decide (a=b)
 |.ty a,.ty b=>decide (a=b)
 |.tup xs,.tup ys=>rG xs ys
 |.lst xs,.lst ys=>rG xs ys
 |_,_=>false
def rG:LD->LD->Bool
 |[],[]=>true
 |x::xs,y::ys=>nv x y && rG xs ys
 |_,_=>false
end
mutual
theorem CC:∀ {x y:D},nv x y=true->x=y
 |.non,.non,_=>rfl
 |.bl a,.bl b,h=>by simp[nv]at h;rw[h]
 |.int a,.int b,h=>by simp[nv]at h;rw[h]
 |.str a,.str b,h=>by simp[nv]at h;rw[h]
 |.ty a,.ty b,h=>by simp[nv]at h;rw[h]
 |.tup xs,.tup ys,h=>by rw[nv]at h;rw[rH h]
 |.lst xs,.lst ys,h=>by rw[nv]at h;rw[rH h]
theorem rH:∀ {xs ys:LD},rG xs ys=true->xs=ys
 |[],[],_=>rfl
 |x::xs,y::ys,h=>by
  rw[rG,vC]at h;rw[CC h.1,rH h.2]
end
def PF (r:OB)(d:D)(b:Bool):Bool:=match r with
 |some (e,c)=>nv e d && c == b
 |none=>false
def rJ (h:PF r d b=true):r=some (d,b):=by
 unfold PF at h;split at h
 ·rw[vC]at h;rw[CC h.1,eq_of_beq h.2]
 ·cases h
section
variable {f:FE}{c:FT}{g g' h:FS}{ρ ρ':Env}{i:Nat}{d:D}{b:Bool}{r:Option Res}{ds:LD}
def aw (hl:ds.length=n)(e:g (ds.map (λd=>some (d,false))++List.replicate k none)=some (.rt d b)):aE g n k ds=some (d,b):=by
 unfold aE;rw[if_pos hl,e]
def vi (n:b8 d=true):setE ρ i d b=ρ.set i (some (d,false)):=by unfold setE;rw[if_pos n]
def zp (n:bB ds=true):setE ρ i (.lst ds) true=ρ.set i (some (.lst ds,true)):=by
 unfold setE;rw[if_neg (by simp),if_pos ⟨rfl,by simpa using n⟩]
def Lu (e:f ρ=some (d,b))(k:h (setE ρ i d b)=r):aA (br i f) h ρ=r:=by simp[e];exact k
def rK (e:f ρ=some (d,b))(n:b8 d=true)(k:h (ρ.set i (some (d,false)))=r):aA (br i f) h ρ=r:=Lu e (by rw[vi n];exact k)
def dq (e:f ρ=some (.lst ds,true))(n:bB ds=true)(k:h (ρ.set i (some (.lst ds,true)))=r):aA (br i f) h ρ=r:=Lu e (by rw[zp n];exact k)
def ft (e:g ρ=some (.nx ρ'))(k:h ρ'=r):aA g h ρ=r:=by unfold aA;rw[e];exact k
def Nh (e:g ρ=some (.rt d b)):aA g h ρ=some (.rt d b):=by unfold aA;rw[e]
def Sh (e:g ρ=some (.ct ρ')):aA g h ρ=some (.ct ρ'):=by unfold aA;rw[e]
def Es (e:c ρ=some true)(k:g ρ=r):cO c g g' ρ=r:=by unfold cO;rw[e];exact k
def Bk (e:c ρ=some false)(k:g' ρ=r):cO c g g' ρ=r:=by unfold cO;rw[e];exact k
def PH (e:c ρ=some x)(G:x=true->g ρ=r)(M:x=false->g' ρ=r):cO c g g' ρ=r:=by
 cases x with
 |true=>exact Es e (G rfl)
 |false=>exact Bk e (M rfl)
def bw (e:c ρ=some true)(k:g ρ=some (.rt d b)):aA (cO c g g') h ρ=some (.rt d b):=Nh (Es e k)
def aD (e:c ρ=some false)(k:h ρ=r):aA (cO c g aN) h ρ=r:=ft (Bk e rfl) k
def ay (e:f ρ=some (d,b)):aF f ρ=some (.rt d b):=by simp[e]
def qp (e:ρ[i]? = some (some (d,b)))(hb:F0 d=false:=by rfl):iT i ρ=some (.rt d b):=by simp only[iT,e,hb];simp
def kL (e:f ρ=some (d,b))(n:b8 d=true):br i f ρ=some (.nx (ρ.set i (some (d,false)))):=by
 show(f ρ).map _=_;rw[e,map_some,vi n]
def CD (e:f ρ=some (.lst ds,true))(n:bB ds=true):br i f ρ=some (.nx (ρ.set i (some (.lst ds,true)))):=by
 show(f ρ).map _=_;rw[e,map_some,zp n]
def xC (e:ρ[i]? = some (some (.lst ds,true)))(G:f ρ=some (d,b))(n:b8 d=true)(l:ds.length<sizeLine):tM i f ρ=some (.nx (ρ.set i (some (.lst (ds++[d]),true)))):=by
 simp[e,G,n,l]
def Lv (e:ρ[i]? = some (some (.lst ds,true)))(G:f ρ=some (d,b))(n:b8 d=true)(l:ds.length<sizeLine)(k:h (ρ.set i (some (.lst (ds++[d]),true)))=r):aA (tM i f) h ρ=r:=ft (xC e G n l) k
def zq (e:fi ρ=some ds)(k:gg tg g ds ρ=some (.nx ρ')):qF fi tg g ρ=some (.nx ρ'):=by unfold qF;rw[e];exact k
def hU (e:fi (gP ρ)=some ds)(k:gg tg g ds ρ=some (.nx ρ')):lL fi tg g ρ=some (.nx ρ'):=by unfold lL;rw[e];exact k
def vj {f:FE}{j:Nat}(e:f ρ=some (.int j,b))(hj:j<=1000):ot f ρ=some (jH 0 j):=by
 unfold ot;rw[e];simp only[];rw[if_pos (by omega)];simp
def dB (e:f ρ=some (.bl x,b)):aV f ρ=some x:=by unfold aV;rw[e]
def bA (e:fa ρ=some ds)(k:F ds=x):fA F fa ρ=x:=by unfold fA;rw[e,vJ];exact k
def zr {f1 g1:D->D->OB}{fa G M:FE}{x y z:D}{b1 b2 b3 b4 p q:Bool}(O:fa ρ=some (x,b1))(T:G ρ=some (y,b2))(U:M ρ=some (z,b3))(a:f1 x y=some (.bl p,b4))(e2:p=true->g1 y z=some (.bl q,false)):iu f1 g1 fa G M ρ=some (.bl (p && q),false):=by
 unfold iu;rw[O,T,U];simp only[vJ,a];cases p
 ·rfl
 ·exact e2 rfl
def dc {f1 f2:FE}{p q b1:Bool}(G:f1 ρ=some (.bl p,b1))(e2:p=true->f2 ρ=some (.bl q,false)):hG f1 f2 ρ=some (.bl (p && q),false):=by
 unfold hG;rw[G];cases p
 ·rfl
 ·exact e2 rfl
def lS {f1 f2:FE}{p q b1:Bool}(G:f1 ρ=some (.bl p,b1))(e2:p=false->f2 ρ=some (.bl q,false)):EM f1 f2 ρ=some (.bl (p || q),false):=by
 unfold EM;rw[G];cases p
 ·exact e2 rfl
 ·rfl
def aQ (G:f ρ=some (d,b))(e2:M ρ=some xs):ag f M ρ=some (d::xs):=by
 unfold ag;rw[G,vJ,e2,vJ]
def c9 (G:fa ρ=some (x,b1))(e2:O ρ=some (y,b2))(M:op x y=z):f2 op fa O ρ=z:=by
 unfold f2;rw[G,vJ,e2,vJ];exact M
def fz (G:M ρ=some p)(e2:p=true->O ρ=some q):fN M O ρ=some (p && q):=by
 unfold fN;rw[G];cases p
 ·rfl
 ·exact e2 rfl
def fW (G:M ρ=some p)(e2:p=false->O ρ=some q):fO M O ρ=some (p || q):=by
 unfold fO;rw[G];cases p
 ·exact e2 rfl
 ·rfl
def bX (G:M ρ=some p):cm M ρ=some (!p):=by
 unfold cm;rw[G];rfl
end
def EQ (a c:Nat):decide ([a]<[c])=decide (a<c):=by
 congr 1;rw[cons_lt_cons_iff];simp
@[simp] def Ra (a c:Nat):qL (.str ⟨#[a]⟩) (.str ⟨#[c]⟩)=some (.bl (decide (a<=c)),false):=by
 unfold qL;show some (D.bl (!decide ([c]<[a])),false)=_;rw[EQ];congr 3;by_cases h:c<a
 ·rw[As h,Qn (by omega)];rfl
 ·rw[Qn h,As (by omega)];rfl
def eA (h:n<=100000):n<sizeLine:=lt_of_le_of_lt h (by decide)
def fu (h:n<=100000):n<=sizeLine:=le_of_lt (eA h)
def gf {α:Type}(l:List α)(g:α->D)(p:α->Bool)(h:α->D)(e:fi ρ=some (l.map g))(hl:l.length<=100000)
  (k:∀x∈l,∃G,tg (g x) (eP nT cap ρ)=some G/\c G=some (p x)/\(p x=true->∃b,fe G=some (h x,b))):bS fi nT cap tg c fe ρ=some (.lst ((l.filter p).map h),true):=by
 have T:∀M:List α,(∀x∈M,x∈l)->gW tg c fe (eP nT cap ρ) (M.map g)=some ((M.filter p).map h):=by
  intro M;induction M with
  |nil=>intro _;simp
  |cons x M O=>
   intro hm;obtain⟨G,h1,h2,h3⟩:=k x (hm x mX);have O:=O λy hy=>hm y (mZ _ hy);rw[uY,AB,h1,vJ,h2,vJ];cases hp:p x with
   |false=>simp[hp,O]
   |true=>
    obtain⟨b,h4⟩:=h3 hp;simp[hp,O,h4]
 unfold bS;rw[e,vJ,if_pos (fu (by simpa using hl)),T l λ_ h=>h,map_some]
def vk {α:Type}(l:List α)(g:α->D)(h:α->D)(e:fi ρ=some (l.map g))(hl:l.length<=100000)
  (k:∀x∈l,∃G,tg (g x) (eP nT cap ρ)=some G/\∃b,fe G=some (h x,b)):bS fi nT cap tg gX fe ρ=some (.lst (l.map h),true):=by
 have:=gf (c:=gX) (fe:=fe) l g (λ_=>true) h e hl λx hx=>by
  obtain⟨G,h1,h2⟩:=k x hx;exact⟨G,h1,rfl,λ_=>h2⟩
 rw[List.filter_eq_self.mpr λ_ _=>rfl]at this;exact this
@[simp] def rL {α:Type}(f:α->Bool)(l:List α):tR (l.map λx=>.bl (f x))=some (l.map f):=by
 induction l with
 |nil=>rfl
 |cons x l G=>simp[G]
def Fm (h0:0<=i)(h:i.toNat<z.cps.size)(hz:z.length<=100000):bF (.str z) (.int i)=some (.str ⟨#[z.cps.toList.getD i.toNat 0]⟩,false):=by
 have hh:i.toNat<z.cps.toList.length:=by simpa using h
 simp only[bF];rw[if_pos (fu hz),xB h0 hh];simp[List.getD,h]
def Ni (h0:0<=i)(h:i.toNat<ds.length):bF (.lst ds) (.int i)=some (ds.getD i.toNat .non,false):=by
 simp only[bF];rw[xB h0 h];simp[List.getD,h]
def Fl (h0:0<=i)(h:i.toNat<ds.length):bF (.tup ds) (.int i)=some (ds.getD i.toNat .non,false):=by
 simp only[bF];rw[xB h0 h];simp[List.getD,h]
def xD {xs:LI}{i:Int}(h0:0<=i)(h:i.toNat<xs.length):bF (.lst (xs.map .int)) (.int i)=some (.int (xs.getD i.toNat 0),false):=by
 rw[Ni h0 (by simpa using h)];simp[List.getD,h]
def mod_lt {x m:Int}(hm:0<m):0<=x % m/\x % m<m:=⟨Int.emod_nonneg _ (by omega),Int.emod_lt_of_pos _ hm⟩
def JN:dJ [.lst ds]=some (.int ds.length,false):=rfl
def JP:dw (.int i) (.int j)=some (.bl (decide (i=j)),false):=by simp
def kM (h:0<=v):HT.dS n d (some v)=min v.toNat n:=by
 show(if v<0 then (v+(n:Int)).toNat else min v.toNat n)=_;rw[if_neg (by omega)]
def bR (x y:D)(G:fa ρ=some (x,false))(e2:O ρ=some (y,false))(M:op x y=z):f2 op fa O ρ=z:=c9 G e2 M
def dQ (e:f ρ=some (.bl x,false)):aV f ρ=some x:=dB e
def ce (G:f ρ=some (d,false))(e2:M ρ=some xs):ag f M ρ=some (d::xs):=aQ G e2
def aL (ds:LD)(e:fa ρ=some ds)(k:F ds=x):fA F fa ρ=x:=bA e k
def kO (d:D)(e:f ρ=some (d,false))(n:b8 d=true)(k:h (ρ.set i (some (d,false)))=r):aA (br i f) h ρ=r:=rK e n k
@[simp] noncomputable abbrev Yy (af:LD)(ae:Int)(t:Env):Env:=some (.tup af,false)::some (.int ae,false)::t
@[simp] noncomputable abbrev eR (ns:LI)(zs:LS)(M:Int)(G:LS)(R:LD)(a b:OB)(t:Env):Env:=some (.lst (ns.map .int),false)::some (.lst (zs.map .str),false)::some (.int M,false)::a::some (.lst (G.map .str),true)::some (.lst R,true)::b::t
end DL
namespace Lw
open PySem DL
noncomputable def lU:D:=(.int 255)
noncomputable def rM:D:=(.int 9999)
noncomputable def kP:D:=(.int 9)
noncomputable def kQ:D:=(.int 8)
noncomputable def lV:D:=(.int 20)
noncomputable def jk:D:=(.int 8)
noncomputable def iW:D:=(.int 60)
noncomputable def zt:D:=(.tup [(.str "paper"),(.str "like"),(.str "copy")])
noncomputable def bL:List (PySem.Str×D):=[(("root" : Str),(.tup [(.str "office"),(.str "matters"),(.str "further"),(.str "rule")])),(("named" : Str),(.tup [(.str "day"),(.str "office"),(.str "person")])),(("chosen" : Str),(.tup [(.str "day"),(.str "by"),(.str "office"),(.str "person"),(.str "since")])),(("heir" : Str),(.tup [(.str "day"),(.str "by"),(.str "office"),(.str "person")])),(("death" : Str),(.tup [(.str "day"),(.str "person")])),(("lost" : Str),(.tup [(.str "day"),(.str "person")])),(("found" : Str),(.tup [(.str "day"),(.str "person")])),(("leave" : Str),(.tup [(.str "day"),(.str "by"),(.str "person"),(.str "matters"),(.str "stretch"),(.str "further")])),(("paper" : Str),(.tup [(.str "day"),(.str "by"),(.str "matters"),(.str "stretch"),(.str "whom"),(.str "pieces")])),(("like" : Str),(.tup [(.str "day"),(.str "by"),(.str "matters"),(.str "stretch"),(.str "whom"),(.str "of"),(.str "changes")])),(("copy" : Str),(.tup [(.str "day"),(.str "by"),(.str "of")])),(("call" : Str),(.tup [(.str "day"),(.str "by"),(.str "of")]))]
noncomputable def eB:D:=(.tup [(.str "by"),(.str "person"),(.str "whom")])
noncomputable def CF:D:=(.tup [(.str "open"),(.str "first"),(.str "last")])
noncomputable def iB:D:=(.tup [(.str "chosen"),(.str "heir"),(.str "leave"),(.str "paper"),(.str "like"),(.str "copy"),(.str "call")])
def rN:FS :=
  (aF (hG (fA bT (fV 0 (ag (fC (.ty "int")) aj))) (hG (M8 (fA bT (fV 0 (ag (fC (.ty "bool")) aj)))) (iu qL qL (am 1) (am 0) (am 2)))))
def gp:=aE rN 3 0
def zu:FS :=
  (aF (fA gp (fV 0 (ag (fI 0) (ag (fC rM) aj)))))
def iC:=aE zu 1 0
def nw:FS :=
  (aA (cO (fO (cm (aV (fA bT (fV 0 (ag (fC (.ty "tuple")) aj))))) (fO (aV (f2 tO (fA dJ (fV 0 aj)) (fI 2))) (cm (aV (fA iC (ag (cx 0 0) aj)))))) (aF (fC (.bl false))) aN)
  (aF (EM (f2 y7 (cx 0 1) (fC .non)) (hG (fA iC (ag (cx 0 1) aj)) (f2 EO (cx 0 0) (cx 0 1))))))
def ny:=aE nw 1 0
def nA:FS :=
  (aF (fA gp (fV 0 (ag (fI 1) (ag (fC lU) aj)))))
def nB:=aE nA 1 0
def vn:FS :=
  (aA (cO (fO (cm (aV (fA bT (fV 0 (ag (fC (.ty "str")) aj))))) (cm (aV (iu qL qL (fI 1) (fA dJ (fV 0 aj)) (fC kQ))))) (aF (fC (.bl false))) aN)
  (aF (fA yB (ag (bS (bK (am 0)) 1 [] (dF 0) gX (iu qL qL (fS "a") (am 0) (fS "z"))) aj))))
def lC:=aE vn 1 0
def vp:FS :=
  (aF (hG (fA bT (fV 0 (ag (fC (.ty "str")) aj))) (f2 AF (am 0) (fC CF))))
def vq:=aE vp 1 0
def rO:FS :=
  (aF (fA lC (fV 0 aj)))
def ms:=aE rO 1 0
def p0:FS :=
  (aA (cO (fO (cm (aV (fA bT (fV 0 (ag (fC (.ty "tuple")) aj))))) (cm (aV (iu qL qL (fI 1) (fA dJ (fV 0 aj)) (fC jk))))) (aF (fC (.bl false))) aN)
  (aF (fA yB (ag (bS (bK (am 0)) 1 [] (dF 0) gX (fA ms (fV 0 aj))) aj))))
def p4:=aE p0 1 0
def p5:FS :=
  (aA (cO (fO (cm (aV (fA bT (fV 0 (ag (fC (.ty "tuple")) aj))))) (aV (f2 tO (fA dJ (fV 0 aj)) (fI 2)))) (aF (fC (.bl false))) aN)
  (aF (hG (fA gp (ag (cx 0 0) (ag (fI 0) (ag (f2 qJ (fC jk) (fI 1)) aj)))) (fA ms (ag (cx 0 1) aj)))))
def p6:=aE p5 1 0
def nD:FS :=
  (aA (cO (fO (cm (aV (fA bT (fV 0 (ag (fC (.ty "tuple")) aj))))) (cm (aV (fA yB (ag (bS (bK (am 0)) 1 [] (dF 0) gX (fA p6 (fV 0 aj))) aj))))) (aF (fC (.bl false))) aN)
  (aA (br 1 (bS (bK (am 0)) 1 [] (dF 0) gX (cx 0 0)))
  (aF (fA yB (ag (bS (FV (am 1) (qh (am 1) (cY (fI 1)) eZ)) 2 [] (DO [0,1]) gX (f2 EO (am 0) (am 1))) aj)))))
def nE:=aE nD 1 1
def vt:FS :=
  (aA (cO (fO (aV (f2 dw (am 0) (fS "day"))) (aV (f2 dw (am 0) (fS "since")))) (aF (fA iC (fV 1 aj))) aN)
  (aA (cO (fO (aV (f2 dw (am 0) (fS "office"))) (fO (aV (f2 dw (am 0) (fS "by"))) (aV (f2 dw (am 0) (fS "person"))))) (aF (fA lC (fV 1 aj))) aN)
  (aA (cO (aV (f2 dw (am 0) (fS "whom"))) (aF (EM (f2 y7 (am 1) (fC .non)) (fA lC (fV 1 aj)))) aN)
  (aA (cO (aV (f2 dw (am 0) (fS "matters"))) (aF (fA nB (fV 1 aj))) aN)
  (aA (cO (aV (f2 dw (am 0) (fS "stretch"))) (aF (fA ny (fV 1 aj))) aN)
  (aA (cO (aV (f2 dw (am 0) (fS "further"))) (aF (fA gp (fV 1 (ag (fI 0) (ag (fC kP) aj))))) aN)
  (aA (cO (aV (f2 dw (am 0) (fS "rule"))) (aF (fA vq (fV 1 aj))) aN)
  (aA (cO (aV (f2 dw (am 0) (fS "of"))) (aF (fA gp (fV 1 (ag (fI 0) (ag (f2 qJ (fC iW) (fI 1)) aj))))) aN)
  (aA (cO (aV (f2 dw (am 0) (fS "pieces"))) (aF (fA p4 (fV 1 aj))) aN)
  (aF (fA nE (fV 1 aj))))))))))))
def ii:=aE vt 2 0
def vv:FS :=
  (aA (cO (fO (cm (aV (fA bT (fV 0 (ag (fC (.ty "tuple")) aj))))) (fO (aV (f2 dw (fA dJ (fV 0 aj)) (fI 0))) (cm (aV (fA bT (ag (cx 0 0) (ag (fC (.ty "str")) aj))))))) (aF (fC (.bl false))) aN)
  (aA (cO (fO (aV (f1 (qQ bL) (cx 0 0))) (aV (f2 tO (fA dJ (fV 0 aj)) (f2 eQ (fI 1) (fA dJ (ag (f1 (mi bL) (cx 0 0)) aj)))))) (aF (fC (.bl false))) aN)
  (aF (fA yB (ag (bS (FV (f1 (mi bL) (cx 0 0)) (qh (am 0) (cY (fI 1)) eZ)) 2 [] (DO [0,1]) gX (fA ii (fV 0 (fV 1 aj)))) aj)))))
def oD:=aE vv 1 0
def vw:FS :=
  (aF (f2 bF (cx 0 1) (fI 0)))
def a9:=aE vw 1 0
def vx:FS :=
  (aF (f2 bF (cx 0 1) (f2 eQ (fI 1) (f2 (mq bL) (fA a9 (fV 0 aj)) (am 1)))))
def av:=aE vx 2 0
def zv:FS :=
  (aA (cO (aV (f2 dw (fA a9 (fV 0 aj)) (fS "root"))) (aF (fC .non)) aN)
  (aF (fA av (fV 0 (ag (fS "day") aj)))))
def bi:=aE zv 1 0
def p7:FS :=
  (aA (br 1 (fA bi (fV 0 aj)))
  (aA (cO (aV (f2 y7 (am 1) (fC .non))) (aF (fC (.bl true))) aN)
  (aA (cO (fN (aV (f2 dw (fA a9 (fV 0 aj)) (fS "chosen"))) (aV (f2 EO (fA av (fV 0 (ag (fS "since") aj))) (am 1)))) (aF (fC (.bl false))) aN)
  (aF (f2 qL (am 1) (cx 0 0))))))
def kR:=aE p7 1 1
def zw:FS :=
  (aA (cO (fO (cm (aV (fA bT (fV 0 (ag (fC (.ty "tuple")) aj))))) (aV (f2 tO (fA dJ (fV 0 aj)) (fI 2)))) (aF (fC (.bl false))) aN)
  (aF (hG (fA iC (ag (cx 0 0) aj)) (hG (fA oD (ag (cx 0 1) aj)) (fA kR (fV 0 aj))))))
def rP:=aE zw 1 0
def kT:FS :=
  (aF (bS (bK (am 0)) 1 [] (dF 0) (aV (f2 dw (fA a9 (fV 0 aj)) (fS "root"))) (fA av (fV 0 (ag (fS "office") aj)))))
def iD:=aE kT 1 0
def j7:FS :=
  (aF (hG (f2 dw (fA a9 (fV 1 aj)) (fS "root")) (f2 AF (fA av (fV 1 (ag (fS "office") aj))) (fA iD (fV 0 aj)))))
def gs:=aE j7 2 0
def rQ:FS :=
  (aF (Uj (f1 (mi bL) (fA a9 (fV 0 aj))) (qh (cx 0 1) (cY (fI 1)) eZ)))
def gt:=aE rQ 1 0
def p8:FS :=
  (aA (br 1 (bS (bK (fA gt (fV 0 aj))) 2 [] (DO [0,1]) (fN (aV (f2 AF (am 0) (fC eB))) (aV (f2 ky (am 1) (fC .non)))) (am 1)))
  (aF (f1 jw (am 1))))
def gK:=aE p8 1 1
def jZ:FS :=
  (FX 1 (fA gK (fV 2 aj)))
def kU:FS :=
  (aA (br 1 (fA cw aj))
  (aA (lL (bK (am 0)) (dF 2) jZ)
  (aF (f1 mU (am 1)))))
def iE:=aE kU 1 2
def nF:FS :=
  (aA (cO (fO (aV (f2 Og (am 1) (fC iW))) (cm (aV (fA rP (ag (f2 bF (am 0) (am 1)) aj))))) (aF (fC (.bl true))) aN)
  (aF (EM (fA gs (ag (qh (am 0) eZ (cY (am 1))) (ag (f2 bF (am 0) (am 1)) aj))) (f2 BS (fA iE (ag (qh (am 0) eZ (cY (f2 eQ (am 1) (fI 1)))) aj)) (fC lV)))))
def jN:=aE nF 2 0
def kW:FS :=
  (cO (aV (fA jN (fV 1 (fV 2 aj)))) AL aN)
def lW:FS :=
  (aA (cO (cm (aV (fA nq (fV 0 (ag (fA bo (ag (fC (.ty "list")) (ag (fC (.ty "tuple")) aj))) aj))))) AL aN)
  (aA (br 1 (fA i7 (fV 0 aj)))
  (aA (qF (ot (fA dJ (fV 1 aj))) (dF 2) kW)
  (iT 1))))
def jl:=aE lW 1 2
def CG:FS :=
  (aF (bS (FZ (am 0)) 2 [1] (DO [0,1]) (aV (f2 qL (cx 1 0) (am 2))) (am 0)))
def cH:=aE CG 2 0
def GV:FS :=
  (aF (fA bo (ag (fA bi (ag (f2 bF (am 0) (am 1)) aj)) (fV 1 aj))))
def gS:=aE GV 2 0
def rR:FS :=
  (aA (br 2 (bS (bK (fA cH (fV 0 (fV 1 aj)))) 1 [0] (dF 0) (aV (f2 ky (fA bi (ag (f2 bF (am 1) (am 0)) aj)) (fC .non))) (am 0)))
  (aF (rj (am 2) (xw [0] (fA gS (fV 1 (fV 0 aj)))))))
def cR:=aE rR 2 1
def rS:FS :=
  (aF (hG (iu qL EO (fI 0) (am 2) (fA dJ (fV 0 aj))) (f2 qL (f2 bF (f2 bF (am 0) (am 2)) (fI 0)) (am 1))))
def cD:=aE rS 3 0
def rT:FS :=
  (aF (hG (fA cD (fV 0 (fV 1 (fV 2 aj)))) (f2 AF (fA a9 (ag (f2 bF (am 0) (am 2)) aj)) (fC zt))))
def cj:=aE rT 3 0
def vy:FS :=
  (aF (f2 C0 (f2 C0 (qh (am 0) eZ (cY (am 1))) (fA bo (fV 2 aj))) (qh (am 0) (cY (f2 eQ (am 1) (fI 1))) eZ)))
def oE:=aE vy 3 0
def cK:FS :=
  (aA (cO (aV (f2 BS (am 4) (fA dJ (fV 2 aj)))) (aF (fA bo (ag (fS "beyond") (fV 3 aj)))) aN)
  (br 2 (fA oE (fV 2 (fV 4 (fV 5 aj))))))
def aT:FS :=
  (aA (cO (aV (f2 tO (fA a9 (ag (f2 bF (am 0) (am 3)) aj)) (fS "like"))) yI aN)
  (Jl [3] (lL (bK (fA av (ag (f2 bF (am 0) (am 3)) (ag (fS "changes") aj)))) (DO [4,5]) cK)))
def kX:FS :=
  (aA (br 2 (fA av (ag (f2 bF (am 0) (f2 bF (am 1) (f1 y6 (fI 1)))) (ag (fS "pieces") aj))))
  (aA (lL (JJ (am 1)) (dF 3) aT)
  (aF (fA bo (ag (fS "words") (fV 2 aj))))))
def de:=aE kX 2 4
def df:FS :=
  (aA (cO (cm (aV (fA cj (fV 0 (fV 1 (fV 4 aj)))))) (aF (fA bo (ag (fS "lacks") (fV 4 aj)))) aN)
  (aA (tM 3 (am 4))
  (aA (cO (aV (f2 dw (fA a9 (ag (f2 bF (am 0) (am 4)) aj)) (fS "paper"))) (aF (fA de (fV 0 (fV 3 aj)))) aN)
  (br 4 (fA av (ag (f2 bF (am 0) (am 4)) (ag (fS "of") aj)))))))
def CH:FS :=
  (aA (br 3 (fA cw aj))
  (aA (br 4 (am 2))
  (aA (dr (aV (f2 da (am 4) (am 3))) df 1000)
  (aF (GQ (fS "ring") (fA fU (ag (qh (am 3) (cY (f2 fG (am 3) (am 4))) eZ) aj)))))))
def jO:=aE CH 3 2
def vz:FS :=
  (aF (hG (f2 qL (cx 1 0) (am 0)) (EM (f2 y7 (cx 1 1) (fC .non)) (f2 EO (am 0) (cx 1 1)))))
def gu:=aE vz 2 0
def p9:FS :=
  (aF (fA bo (ag (cx 0 0) (ag (cx 0 2) (ag (cx 0 4) aj)))))
def gL:=aE p9 1 0
def CJ:FS :=
  (aA (br 2 (bS (bK (fA cH (fV 0 (fV 1 aj)))) 1 [0] (dF 0) gX (f2 bF (am 1) (am 0))))
  (aF (fA jM (ag (bS (bK (am 2)) 1 [] (dF 0) (aV (f2 dw (fA a9 (fV 0 aj)) (fS "root"))) (fA bo (ag (fA av (fV 0 (ag (fS "office") aj))) (fV 0 aj)))) aj))))
def gD:=aE CJ 2 1
def CK:FS :=
  (aF (hG (f2 AF (fA a9 (fV 0 aj)) (am 1)) (hG (f2 dw (fA av (fV 0 (ag (fS "person") aj))) (am 2)) (f2 qL (fA bi (fV 0 aj)) (am 3)))))
def qq:=aE CK 4 0
def v0:FS :=
  (aF (bS (bK (fA cH (fV 0 (fV 1 aj)))) 1 [2,3,4,0] (dF 0) (aV (fA qq (ag (f2 bF (am 4) (am 0)) (fV 1 (fV 2 (fV 3 aj)))))) (am 0)))
def j8:=aE v0 5 0
def CL:FS :=
  (aF (f2 dw (fA dJ (ag (fA j8 (fV 0 (fV 1 (ag (fA bo (ag (fS "death") aj)) (fV 2 (fV 3 aj)))))) aj)) (fI 0)))
def xE:=aE CL 4 0
def rV:FS :=
  (aA (br 4 (fA j8 (fV 0 (fV 1 (ag (fA bo (ag (fS "lost") (ag (fS "found") aj))) (fV 2 (fV 3 aj)))))))
  (aA (cO (aV (f2 dw (fA dJ (fV 4 aj)) (fI 0))) (aF (fC (.bl true))) aN)
  (aF (f2 dw (fA a9 (ag (f2 bF (am 0) (uL (am 4) (xw [0] (fA gS (fV 1 (fV 0 aj)))))) aj)) (fS "found")))))
def mu:=aE rV 4 1
def rW:FS :=
  (aA (cO (fO (cm (aV (fA cD (fV 0 (fV 1 (fV 2 aj)))))) (aV (f2 da (fA a9 (ag (f2 bF (am 0) (am 2)) aj)) (fC iB)))) (aF (fC (.bl false))) aN)
  (aA (br 3 (fA av (ag (f2 bF (am 0) (am 2)) (ag (fS "by") aj))))
  (aA (br 4 (fA bi (ag (f2 bF (am 0) (am 2)) aj)))
  (aF (hG (fA xE (fV 0 (fV 1 (fV 3 (fV 4 aj))))) (fA mu (fV 0 (fV 1 (fV 3 (fV 4 aj))))))))))
def eC:=aE rW 3 2
def rX:FS :=
  (aF (fA gu (fV 1 (ag (fA bo (ag (cx 0 2) (ag (cx 0 3) aj))) aj))))
def iF:=aE rX 2 0
def rY:FS :=
  (aF (fA bo (ag (cx 0 2) (ag (cx 0 4) aj))))
def dC:=aE rY 1 0
def rZ:FS :=
  (aA (cO (aV (f2 dw (am 1) (fS "last"))) (aF (f2 bF (uL (am 0) (tW dC)) (fI 1))) aN)
  (aF (f2 bF (Cy (am 0) (tW dC)) (fI 1))))
def mv:=aE rZ 2 0
def pA:FS :=
  (aA (br 3 (bS (bK (am 0)) 1 [2,1] (dF 0) (fN (aV (f2 dw (cx 0 0) (fA av (fV 2 (ag (fS "office") aj))))) (aV (fA iF (fV 0 (fV 1 aj))))) (am 0)))
  (aA (br 4 (f1 jw (bS (bK (am 3)) 1 [] (dF 0) gX (cx 0 1))))
  (aA (cO (aV (f2 dw (fA dJ (fV 4 aj)) (fI 0))) (aF (fA bo (ag (fS "none") aj))) aN)
  (aA (cO (fN (aV (f2 BS (fA dJ (fV 4 aj)) (fI 1))) (aV (f2 dw (fA av (fV 1 (ag (fS "rule") aj))) (fS "open")))) (aF (fA bo (ag (fS "parted") (fV 4 aj)))) aN)
  (aA (br 5 (fA mv (fV 3 (ag (fA av (fV 1 (ag (fS "rule") aj))) aj))))
  (aA (br 6 (Cy (bS (bK (am 3)) 1 [5] (dF 0) (aV (f2 dw (cx 0 1) (am 1))) (am 0)) (tW dC)))
  (aF (fA bo (ag (fS "one") (fV 5 (ag (cx 6 4) aj)))))))))))
def eE:=aE pA 3 4
def nG:FS :=
  (aF (f2 dw (qh (fA eE (fV 0 (fV 1 (fV 3 aj)))) eZ (cY (fI 2))) (fA bo (ag (fS "one") (fV 2 aj)))))
def dD:=aE nG 4 0
def zx:FS :=
  (aA (br 4 (f2 bF (am 0) (am 3)))
  (aA (cO (aV (f2 dw (fA a9 (fV 4 aj)) (fS "death"))) (aF C5) aN)
  (aA (cO (aV (f2 da (fA a9 (fV 4 aj)) (fA bo (ag (fS "named") (ag (fS "chosen") (ag (fS "heir") aj)))))) (aF (fC (.bl false))) aN)
  (aA (br 5 (f2 G1 (fA gD (fV 0 (fV 1 aj))) (fA av (fV 4 (ag (fS "office") aj)))))
  (aA (cO (aV (f2 y7 (am 5) (fC .non))) (aF (fC (.bl false))) aN)
  (aA (cO (aV (f2 dw (fA a9 (fV 4 aj)) (fS "named"))) (aF (fC (.bl true))) aN)
  (aF (hG (fA eC (fV 0 (fV 1 (fV 3 aj)))) (fA dD (fV 2 (fV 5 (ag (fA av (fV 4 (ag (fS "by") aj))) (ag (fA bi (fV 4 aj)) aj)))))))))))))
def nH:=aE zx 4 2
def pB:FS :=
  (aF (fA bo (ag (fA av (fV 0 (ag (fS "office") aj))) (ag (fA av (fV 0 (ag (fS "person") aj))) (fV 1 (ag (fC .non) (fV 2 aj)))))))
def iX:=aE pB 3 0
def lD:FS :=
  (aA (br 5 (f2 bF (am 0) (am 4)))
  (aA (cO (cm (aV (fA nH (fV 0 (fV 1 (fV 2 (fV 4 aj))))))) yI aN)
  (cO (aV (f2 dw (fA a9 (fV 5 aj)) (fS "named"))) (br 2 (f2 eQ (am 2) (fA cw (ag (fA iX (fV 5 (ag (fA bi (fV 5 aj)) (fV 4 aj)))) aj)))) (cO (aV (f2 dw (fA a9 (fV 5 aj)) (fS "chosen"))) (br 2 C5) (cO (aV (f2 dw (fA a9 (fV 5 aj)) (fS "heir"))) (C6 3 (ag (fA av (fV 5 (ag (fS "office") aj))) (ag (fA av (fV 5 (ag (fS "by") aj))) aj)) (fA av (fV 5 (ag (fS "person") aj)))) (br 2 C5))))))
def zy:FS :=
  (aA (br 2 (fA cw aj))
  (aA (G3 3)
  (aA (lL (bK (fA cR (fV 0 (fV 1 aj)))) (dF 4) lD)
  (aF (rj (am 2) (tW gL))))))
def nI:=aE zy 2 4
def sd:FS :=
  (aF (hG (fA cD (fV 0 (fV 1 (fV 2 aj)))) (f2 dw (fA a9 (ag (f2 bF (am 0) (am 2)) aj)) (fS "leave"))))
def gy:=aE sd 3 0
def se:FS :=
  (aF (EM (fA gy (fV 0 (fV 1 (fV 2 aj)))) (fA cj (fV 0 (fV 1 (fV 2 aj))))))
def eF:=aE se 3 0
def sf:FS :=
  (aF (f2 dw (f2 Ph (am 0) (am 1)) (am 1)))
def iG:=aE sf 2 0
def pC:FS :=
  (aA (cO (cm (aV (fA iG (ag (fA av (fV 1 (ag (fS "matters") aj))) (ag (fA av (fV 0 (ag (fS "matters") aj))) aj))))) (aF (fS "matters")) aN)
  (aA (cO (fN (aV (f2 dw (fA a9 (fV 0 aj)) (fS "leave"))) (aV (f2 Og (fA av (fV 0 (ag (fS "further") aj))) (fA av (fV 1 (ag (fS "further") aj)))))) (aF (fS "further")) aN)
  (aF (fC .non))))
def iY:=aE pC 2 0
def nJ:FS :=
  (aA (cO (cm (aV (fA dD (fV 0 (fV 2 (ag (fA av (fV 1 (ag (fS "by") aj))) (ag (fA bi (fV 1 aj)) aj))))))) (aF (fS "holder")) aN)
  (aF (fA iY (fV 1 (fV 2 aj)))))
def hV:=aE nJ 3 0
def kY:FS :=
  (aA (br 4 (f2 bF (am 0) (am 3)))
  (aA (br 5 (bS (rB (fA gD (fV 0 (fV 1 aj)))) 1 [2,4] (dF 0) (aV (f2 y7 (fA hV (fV 1 (fV 2 (fV 0 aj)))) (fC .non))) (am 0)))
  (aF (bS (bK (am 5)) 1 [2,4] (dF 0) gX (fA bo (ag (fS "office") (ag (fA av (fV 0 (ag (fS "office") aj))) (ag (f2 bF (fA eE (fV 1 (fV 0 (ag (fA bi (fV 2 aj)) aj)))) (fI 2)) aj))))))))
def iH:=aE kY 4 2
def lX:FS :=
  (aA (cO (aV (f2 y7 (am 1) (fC .non))) (aF (fC (.bl true))) aN)
  (aF (hG (f2 ky (am 0) (fC .non)) (f2 qL (am 0) (am 1)))))
def jm:=aE lX 2 0
def pD:FS :=
  (aF (hG (f2 qL (cx 1 0) (cx 0 0)) (fA jm (ag (cx 0 1) (ag (cx 1 1) aj)))))
def iZ:=aE pD 2 0
def sg:FS :=
  (aF (f2 LP (fA gS (fV 0 (fV 1 aj))) (fA gS (fV 0 (fV 2 aj)))))
def gz:=aE sg 3 0
def pF:FS :=
  (aA (br 3 (f2 bF (am 0) (am 1)))
  (aA (br 4 (fA av (ag (f2 bF (am 0) (am 2)) (ag (fS "stretch") aj))))
  (aA (cO (cm (aV (fA gz (fV 0 (fV 2 (fV 1 aj)))))) (aF (fS "order")) aN)
  (aA (cO (fO (cm (aV (fA gu (ag (fA bi (fV 3 aj)) (fV 4 aj))))) (cm (aV (fA iZ (ag (fA av (fV 3 (ag (fS "stretch") aj))) (fV 4 aj)))))) (aF (fS "days")) aN)
  (aF (fA iY (fV 3 (ag (f2 bF (am 0) (am 2)) aj))))))))
def ja:=aE pF 3 2
def pG:FS :=
  (aA (br 3 (bS (bK (fA cH (fV 0 (fV 1 aj)))) 1 [0,1] (dF 0) (aV (fA gy (fV 1 (fV 2 (fV 0 aj))))) (am 0)))
  (aF (bS (bK (am 3)) 1 [2,0] (dF 0) (aV (f2 dw (fA av (ag (f2 bF (am 2) (am 0)) (ag (fS "person") aj))) (am 1))) (am 0))))
def kZ:=aE pG 3 1
def lY:FS :=
  (aA (br 3 (fA kZ (fV 0 (fV 1 (ag (fA av (ag (f2 bF (am 0) (am 2)) (ag (fS "by") aj))) aj)))))
  (aF (bS (bK (am 3)) 1 [0,2] (dF 0) (aV (f2 y7 (fA ja (fV 1 (fV 2 (fV 0 aj)))) (fC .non))) (fA bo (ag (fS "leave") (fV 0 aj))))))
def jn:=aE lY 3 1
def nL:FS :=
  (aA (br 3 (fA av (ag (f2 bF (am 0) (am 2)) (ag (fS "of") aj))))
  (aA (cO (fN (aV (fA cj (fV 0 (fV 1 (fV 3 aj))))) (aV (fA gz (fV 0 (fV 3 (fV 2 aj)))))) (aF (fA cw (ag (fA bo (ag (fS "copy") (fV 3 aj))) aj))) aN)
  (aF (fA cw aj))))
def jP:=aE nL 3 1
def si:FS :=
  (aA (cO (cm (aV (fA eF (fV 0 (fV 1 (fV 3 aj)))))) (aF (fA cw aj)) aN)
  (aA (cO (aV (f2 dw (fA a9 (ag (f2 bF (am 0) (am 3)) aj)) (fS "copy"))) (aF (fA jP (fV 0 (fV 1 (fV 3 aj))))) aN)
  (aA (br 4 (f2 eQ (fA iH (fV 0 (fV 1 (fV 2 (fV 3 aj))))) (fA jn (fV 0 (fV 1 (fV 3 aj))))))
  (aF (Bh (am 4) (xw [] (fA bo (ag (f2 bF (am 0) (f1 y6 (fI 1))) (fV 0 aj)))))))))
def fH:=aE si 4 1
def sj:FS :=
  (aA (br 5 (f2 bF (am 0) (am 4)))
  (aA (br 6 (fA av (ag (f2 bF (am 0) (am 3)) (ag (fS "by") aj))))
  (aA (cO (aV (f2 dw (am 6) (fA av (fV 5 (ag (fS "by") aj))))) (aF (fC (.bl true))) aN)
  (aA (cO (aV (f2 dw (fA a9 (fV 5 aj)) (fS "copy"))) (aF (fC (.bl false))) aN)
  (aA (br 7 (bS (rB (fA gD (fV 0 (fV 1 aj)))) 1 [5] (dF 0) (aV (fA iG (ag (fA av (fV 0 (ag (fS "matters") aj))) (ag (fA av (fV 1 (ag (fS "matters") aj))) aj)))) (am 0)))
  (aF (fA FN (ag (bS (bK (am 7)) 1 [2,6,0,3] (dF 0) gX (fA dD (fV 1 (fV 0 (fV 2 (ag (fA bi (ag (f2 bF (am 3) (am 4)) aj)) aj)))))) aj))))))))
def mw:=aE sj 5 3
def sk:FS :=
  (aA (br 6 (f2 bF (am 0) (am 3)))
  (aA (cO (fO (aV (f2 tO (fA a9 (fV 6 aj)) (fS "call"))) (fO (aV (f2 tO (fA av (fV 6 (ag (fS "of") aj))) (am 4))) (aV (f2 BS (fA bi (fV 6 aj)) (am 5))))) (aF (fC (.bl false))) aN)
  (aF (hG (fA eC (fV 0 (fV 1 (fV 3 aj)))) (fA mw (fV 0 (fV 1 (fV 2 (fV 3 (fV 4 aj))))))))))
def jQ:=aE sk 6 1
def sn:FS :=
  (aA (cO (cm (aV (fA eF (fV 0 (fV 1 (fV 3 aj)))))) (aF (fA cw aj)) aN)
  (aF (bS (bK (fA cH (fV 0 (fV 1 aj)))) 1 [0,1,2,3,4] (dF 0) (aV (fA jQ (fV 1 (fV 2 (fV 3 (fV 0 (fV 4 (fV 5 aj)))))))) (am 0))))
def jR:=aE sn 5 0
def z4:FS :=
  (aA (cO (fO (cm (aV (fA eC (fV 0 (fV 1 (fV 3 aj)))))) (aV (f2 BS (fA bi (ag (f2 bF (am 0) (am 3)) aj)) (am 4)))) (aF (fC (.bl false))) aN)
  (aF (f2 dw (fA dJ (ag (fA jR (fV 0 (fV 1 (fV 2 (fV 3 (fV 4 aj)))))) aj)) (fI 0))))
def nM:=aE z4 5 0
def z5:FS :=
  (cO (fN (aV (fA eF (fV 0 (fV 1 (fV 5 aj))))) (aV (fA nM (fV 0 (fV 1 (fV 3 (fV 5 (fV 2 aj)))))))) (rE 4 (am 5) (fA fH (fV 0 (fV 1 (fV 3 (fV 5 aj)))))) aN)
def CM:FS :=
  (aA (yp 3 (fA nI (fV 0 (fV 1 aj))))
  (aA (C3 4)
  (aA (lL (bK (fA cR (fV 0 (fV 1 aj)))) (dF 5) z5)
  (iT 4))))
def xF:=aE CM 3 3
def CN:FS :=
  (aF (EM (f2 dw (cx 0 0) (fS "office")) (f2 QZ (cx 0 1) (am 1))))
def nN:=aE CN 2 0
def z6:FS :=
  (cO (aV (fA FN (ag (bS (bK (am 3)) 1 [1] (dF 0) gX (fA nN (fV 0 (fV 1 aj)))) aj))) (zi 1 (am 2) (fC (.bl true))) aN)
def CO:FS :=
  (aA (C3 1)
  (aA (lL (CA (am 0)) (DO [2,3]) z6)
  (iT 1)))
def xG:=aE CO 1 3
def sq:FS :=
  (aF (fA j6 (ag (fA xG (ag (fA xF (fV 0 (fV 1 (fV 2 aj)))) aj)) aj)))
def iI:=aE sq 3 0
def gT:FS :=
  (br 2 (f2 bF (am 0) (fA av (fV 2 (ag (fS "of") aj)))))
def la:FS :=
  (aA (br 2 (f2 bF (am 0) (am 1)))
  (aA (dr (aV (f2 dw (fA a9 (fV 2 aj)) (fS "copy"))) gT 1000)
  (iT 2)))
def dh:=aE la 2 1
def wa:FS :=
  (aA (br 3 (bS (bK (fA iI (fV 0 (fV 1 (fV 2 aj))))) 1 [0,1] (dF 0) (aV (fA cj (fV 1 (fV 2 (fV 0 aj))))) (am 0)))
  (aF (bS (bK (am 3)) 1 [2,0] (dF 0) (aV (fA gu (fV 1 (ag (fA av (ag (fA dh (fV 2 (fV 0 aj))) (ag (fS "stretch") aj))) aj)))) (am 0))))
def lF:=aE wa 3 1
def wb:FS :=
  (aF (fA av (ag (fA dh (fV 0 (fV 1 aj))) (ag (fS "whom") aj))))
def lG:=aE wb 2 0
def CP:FS :=
  (aA (cO (aV (f2 da (am 3) (fA lF (fV 0 (fV 1 (fV 2 aj)))))) (aF (fC (.bl false))) aN)
  (aF (EM (f2 y7 (am 4) (fC .non)) (f2 AF (fA lG (fV 0 (fV 3 aj))) (fA bo (ag (fC .non) (fV 4 aj)))))))
def qt:=aE CP 5 0
def pH:FS :=
  (aA (cO (aV (f2 EO (am 1) (fA dJ (fV 0 aj)))) (aF (f2 bF (am 0) (am 1))) aN)
  (aF (fI 0)))
def bU:=aE pH 2 0
def pJ:FS :=
  (aA (br 4 (f2 bY (f2 eQ (f2 eQ (f2 eQ (f2 tP (am 4) (am 4)) (f2 tP (fI 48271) (am 4))) (am 5)) (am 1)) (fI 2147483647)))
  (tM 3 (am 4)))
def sr:FS :=
  (aA (br 3 (fA cw aj))
  (aA (br 4 (f2 bY (f2 eQ (f2 eQ (f2 tP (f2 bY (am 0) (fI 2147483647)) (fI 48271)) (f2 tP (f2 tP (am 1) (am 1)) (fI 69621))) (fI 11)) (fI 2147483647)))
  (aA (qF (ot (am 2)) (dF 5) pJ)
  (iT 3))))
def fJ:=aE sr 3 3
def z7:FS :=
  (aA (br 3 (fA cw (ag (fS "ann") (ag (fS "bob") (ag (fS "cid") aj)))))
  (aA (br 4 (f2 bF (am 3) (f2 bY (f2 bY (cx 0 2) (fI 4)) (fI 3))))
  (aA (br 5 (f2 bF (am 3) (f2 bY (cx 0 3) (fI 3))))
  (aA (br 6 (fA bo (ag (f2 bY (cx 0 5) (fI 4)) (ag (f2 bF (fA cw (ag (fC .non) (ag (f2 eQ (f2 eQ (f2 bY (cx 0 5) (fI 4)) (fI 1)) (f2 bY (f2 jq (cx 0 5) (fI 4)) (fI 9))) aj))) (f2 bY (f2 jq (cx 0 5) (fI 40)) (fI 2))) aj))))
  (aA (br 7 (fA FF (ag (fI 0) (ag (f2 eQ (f2 qJ (f2 qJ (am 1) (fI 1)) (f2 bY (cx 0 6) (fI 5))) (f2 tP (fA xh (ag (f2 dw (f2 bY (f2 jq (cx 0 6) (fI 5)) (fI 8)) (fI 0)) aj)) (fI 3))) aj))))
  (aA (br 8 (f2 bY (cx 0 1) (fI 12)))
  (aA (cO (aV (f2 dw (am 8) (fI 0))) (aF (fA bo (ag (fS "leave") (fV 2 (fV 4 (fV 5 (ag (fI 7) (ag (fA bo (ag (fI 0) (ag (fC .non) aj))) (ag (f2 bY (cx 0 7) (fI 3)) aj))))))))) aN)
  (aA (cO (aV (f2 EO (am 8) (fI 4))) (aF (fA bo (ag (fS "paper") (fV 2 (fV 4 (ag (fI 1) (fV 6 (ag (f2 bF (fA cw (ag (fC .non) (fV 5 aj))) (f2 bY (cx 0 7) (fI 2))) (ag (fA bo (ag (fS "aa") (ag (fS "b") aj))) aj))))))))) aN)
  (aA (cO (aV (f2 dw (am 8) (fI 4))) (aF (fA bo (ag (fS "like") (fV 2 (fV 4 (ag (fI 1) (fV 6 (ag (fC .non) (fV 7 (ag (fA bo (ag (fA bo (ag (fI 1) (ag (fS "c") aj))) aj)) aj)))))))))) aN)
  (aA (cO (aV (f2 EO (am 8) (fI 10))) (aF (fA bo (ag (fS "copy") (fV 2 (fV 4 (fV 7 aj)))))) aN)
  (aA (cO (aV (f2 dw (am 8) (fI 10))) (aF (fA bo (ag (fS "call") (fV 2 (fV 4 (fV 7 aj)))))) aN)
  (aF (fA bo (ag (f2 bF (fA cw (ag (fS "lost") (ag (fS "found") aj))) (f2 bY (cx 0 7) (fI 2))) (fV 2 (fV 5 aj))))))))))))))))
def su:=aE z7 3 6
def lH:FS :=
  (aA (br 4 (fA fJ (fV 3 (ag (fA dJ (fV 1 aj)) (ag (fI 9) aj)))))
  (aA (br 5 (f2 bY (cx 4 0) (fI 10)))
  (aA (br 6 (f2 eQ (am 5) (f2 bF (fA cw (ag (fI 0) (ag (fI 0) (ag (fI 0) (ag (f2 bY (f2 jq (cx 4 0) (fI 10)) (fI 5)) aj))))) (f2 bY (f2 jq (cx 4 0) (fI 50)) (fI 4)))))
  (tM 1 (fA bo (fV 6 (ag (fA su (fV 4 (ag (fA dJ (fV 1 aj)) (fV 5 aj)))) aj)))))))
def z8:FS :=
  (aA (br 1 (fA cw (ag (fA bo (ag (fI 0) (ag (fA bo (ag (fS "root") (ag (fS "king") (ag (fI 7) (ag (fI 3) (ag (fS "open") aj)))))) aj))) (ag (fA bo (ag (fI 0) (ag (fA bo (ag (fS "named") (ag (fI 0) (ag (fS "king") (ag (fS "ann") aj))))) aj))) aj))))
  (aA (cO (aV (f2 dw (f2 bY (fA bU (fV 0 (ag (fI 0) aj))) (fI 4)) (fI 0))) (tM 1 (fA bo (ag (fI 3) (ag (fA bo (ag (fS "named") (ag (fI 3) (ag (fS "king") (ag (fS "bob") aj))))) aj)))) aN)
  (aA (br 2 (qh (am 0) (cY (fI 2)) (cY (fI 13))))
  (aA (cO (aV (f2 dw (f2 bY (fA bU (fV 0 (ag (fI 1) aj))) (fI 4)) (fI 1))) (br 2 (f2 eQ (am 2) (fA fJ (ag (fA bU (fV 0 (ag (fI 1) aj))) (ag (fI 92) (ag (f2 qJ (fI 11) (fA dJ (fV 2 aj))) aj)))))) aN)
  (aA (Jl [2] (lL (bK (am 2)) (dF 3) lH))
  (iT 1))))))
def sv:=aE z8 1 6
def CQ:FS :=
  (aF (fA jR (fV 0 (fV 1 (ag (fA nI (fV 0 (fV 1 aj))) (fV 2 (fV 3 aj)))))))
def qu:=aE CQ 4 0
def CS:FS :=
  (aA (br 6 (f2 bF (f2 bF (am 0) (am 3)) (fI 1)))
  (aA (cO (fO (aV (f2 BS (cx 6 1) (am 2))) (cm (aV (fA eC (fV 0 (fV 1 (fV 3 aj))))))) (aF (fC (.bl false))) aN)
  (aA (cO (aV (f2 BS (fA dJ (ag (fA qu (fV 0 (fV 1 (fV 3 (fV 2 aj))))) aj)) (fI 0))) (aF (fC (.bl false))) aN)
  (aA (cO (fO (aV (f2 da (cx 6 3) (am 5))) (aV (f2 Og (f2 fG (am 5) (cx 6 3)) (f2 fG (am 5) (am 3))))) (aF (fC (.bl false))) aN)
  (aA (cO (aV (f2 da (f2 bF (f2 bF (f2 bF (am 0) (cx 6 3)) (fI 1)) (fI 0)) (fA bo (ag (fS "paper") (ag (fS "like") (ag (fS "copy") aj)))))) (aF (fC (.bl false))) aN)
  (aF (fA qt (fV 0 (fV 1 (fV 2 (ag (cx 6 3) (fV 4 aj))))))))))))
def qw:=aE CS 6 1
def Bl:FS :=
  (aA (br 9 (f2 bF (fA cw (ag (fC .non) (ag (fS "ann") (ag (fS "bob") aj)))) (f2 bY (f2 eQ (am 7) (am 8)) (fI 3))))
  (aA (br 10 (fA qt (fV 2 (fV 4 (fV 8 (fV 7 (fV 9 aj)))))))
  (aA (cO (aV (f2 tO (am 10) (fA qw (fV 2 (fV 4 (fV 8 (fV 7 (fV 9 (fV 5 aj))))))))) (aF (fC (.bl false))) aN)
  (aA (br 11 (f2 bF (f2 bF (f2 bF (am 2) (am 7)) (fI 1)) (fI 3)))
  (cO (fN (aV (am 10)) (aV (f2 tO (fA jO (fV 2 (fV 4 (fV 7 aj)))) (fA jO (fV 2 (fV 4 (fV 11 aj))))))) (aF (fC (.bl false))) aN)))))
def Bm:FS :=
  (Jl [3] (lL (bK (fA cw (ag (f2 bY (cx 3 2) (fI 5)) (ag (f2 eQ (fI 5) (f2 bY (f2 jq (cx 3 2) (fI 5)) (fI 5))) (ag (f2 eQ (fI 10) (f2 bY (cx 3 1) (fI 9))) (ag (fI 9999) aj)))))) (dF 8) Bl))
def xH:FS :=
  (aA (br 5 (fA cR (fV 2 (fV 4 aj))))
  (aA (br 6 (bS (bK (am 5)) 1 [2] (dF 0) (aV (f2 dw (f2 bF (f2 bF (f2 bF (am 1) (am 0)) (fI 1)) (fI 0)) (fS "copy"))) (am 0)))
  (Jl [6] (lL (bK (am 6)) (dF 7) Bm))))
def Lx:FS :=
  (aA (br 1 (fA sv (fV 0 aj)))
  (aA (br 2 (fA jl (fV 1 aj)))
  (aA (br 3 (fA fJ (ag (fA bU (fV 0 (ag (fI 1) aj))) (ag (fI 60) (ag (fI 3) aj)))))
  (aA (Jl [3] (lL (bK (fA cw (ag (f2 bF (fA cw (ag (fI 9999) (ag (f2 bY (cx 3 0) (fI 12)) aj))) (f2 bY (f2 jq (cx 3 0) (fI 12)) (fI 2))) aj))) (dF 4) xH))
  (aF (fC (.bl true)))))))
def F_law:=aE Lx 1 11
end Lw
namespace DL
open PySem L2
theorem iJ:∀(n m:Nat)(d:D),n<=m->aH n d=true->aH m d=true
 |n,m,.non,_,_=>by simp
 |n,m,.bl _,_,_=>by simp
 |n,m,.int _,_,_=>by simp
 |n,m,.str _,_,_=>by simp
 |n,m,.ty _,_,h=>by cases n<;>simp[aH]at h
 |n,m,.dk _ _,_,h=>by simp at h
 |n,m,.dt _ _,_,h=>by simp at h
 |0,m,.tup _,_,h=>by simp[aH]at h
 |0,m,.lst _,_,h=>by simp[aH]at h
 |n+1,0,_,h,_=>by omega
 |n+1,m+1,.tup ds,hl,h=>by
  simp only[aH,all_eq_true]at h |-;exact λd hd=>iJ n m d (by omega) (h d hd)
 |n+1,m+1,.lst ds,hl,h=>by
  simp only[aH,all_eq_true]at h |-;exact λd hd=>iJ n m d (by omega) (h d hd)
theorem oF:∀(ds:LD),(∀d∈ds,cV d d=true)->gb ds ds=true
 |[],_=>by simp only[gb]
 |d::ds,h=>by
  simp only[gb,h d mX,Bool.true_and];exact oF ds λe he=>h e (mZ _ he)
theorem sw:∀(n:Nat)(d:D),aH n d=true->cV d d=true
 |n,.non,_=>by simp
 |n,.bl _,_=>by simp
 |n,.int _,_=>by simp
 |n,.str _,_=>by simp
 |n,.ty _,h=>by cases n<;>simp[aH]at h
 |n,.dk _ _,h=>by simp at h
 |n,.dt _ _,h=>by simp at h
 |0,.tup _,h=>by simp[aH]at h
 |0,.lst _,h=>by simp[aH]at h
 |n+1,.tup ds,h=>by
  simp only[aH,all_eq_true]at h;simp only[cV];exact oF ds λd hd=>sw n d (h d hd)
 |n+1,.lst ds,h=>by
  simp only[aH,all_eq_true]at h;simp only[cV];exact oF ds λd hd=>sw n d (h d hd)
end DL
namespace DL
@[simp] noncomputable abbrev sF (d:D):OB:=some (d,false)
@[simp] noncomputable abbrev lT (ds:LD):OB:=some (.lst ds,true)
@[simp] noncomputable abbrev sI (x:Int):OB:=some (.int x,false)
@[simp] noncomputable abbrev sS (x:PySem.Str):OB:=some (.str x,false)
@[simp] noncomputable abbrev sT (x:LD):OB:=some (.tup x,false)
@[simp] noncomputable abbrev sL (x:LD):OB:=some (.lst x,false)
@[simp] noncomputable abbrev sO (x:Bool):OB:=some (.bl x,false)
def cM {r:OB}{d:D}{b:Bool}(h:PF r d b=true:=by decide +kernel):r=some (d,b):=rJ h
def jo {p q:Prop}[Decidable p](h:p)(n:decide p=false:=by decide +kernel):q:=absurd h (of_decide_eq_false n)
end DL
namespace Lw
open PySem DL L2
def GW (d:D)(r:LD):mH (d::r) 0=some d:=by have:=kK (xs:=d::r) (j:=0) (by simp);simpa using this
def Bn (d e:D)(r:LD):mH (d::e::r) 1=some e:=by have:=kK (xs:=d::e::r) (j:=1) (by simp);simpa using this
def Um (d e f:D)(r:LD):mH (d::e::f::r) 2=some f:=by have:=kK (xs:=d::e::f::r) (j:=2) (by simp);simpa using this
noncomputable def dE (k:Str):Bool:=decide (k = "death") || decide (k = "lost") || decide (k = "found")
noncomputable def eU (k:Str):Bool:=decide (k = "chosen") || decide (k = "heir") || decide (k = "leave") || decide (k = "paper") || decide (k = "like") || decide (k = "copy") || decide (k = "call")
structure DeedP (kind:Str)(ax:List D):Prop where
 flat:bB ax=true
 plain:ax.all (aH 5)=true
 three:dE kind=true->∃(day:Int)(p:Str),ax=[.int day,.str p]
 slg:eU kind=true->∃(day:Int)(p:Str)(r:List D),ax=.int day::.str p::r
noncomputable def row (h:Int)(kind:Str)(ax:LD):D:=.tup [.int h,.tup (.str kind::ax)]
def oG (r:D):Prop:=∃h kind ax,r=row h kind ax/\DeedP kind ax
def oG.flat (h:oG r):b8 r=true:=by obtain⟨a,k,ax,rfl,dp⟩:=h;simp[row,dp.flat]
def oG.plain (h:oG r):aH 39 r=true:=by
 obtain⟨a,k,ax,rfl,dp⟩:=h;refine iJ 7 39 _ (by decide) ?_;have:=dp.plain;simp only[row,aH,all_cons,all_nil,Bool.and_true,Bool.true_and];exact this
def c7 (h:∀d∈ds,b8 d=true):bB ds=true:=by
 induction ds with
 |nil=>rfl
 |cons d r G=>simp[h d (by simp),G λe he=>h e (by simp[he])]
def eG (zs:LS):bB (zs.map D.str)=true:=by
 induction zs with
 |nil=>rfl
 |cons a l G=>simp[G]
noncomputable def ba:D->Int
 |.tup (.int h::_)=>h
 |_=>0
noncomputable def kindOf:D->Str
 |.tup [_,.tup (.str k::_)]=>k
 |_=>("" : Str)
noncomputable def aS:D->Int
 |.tup [_,.tup (_::.int d::_)]=>d
 |_=>0
noncomputable def GX (p:Str)(day:Int):LD->Bool
 |[.int d,.str q]=>decide (q=p) && decide (d<=day)
 |_=>false
def told (G:LS)(p:Str)(day:Int):D->Bool
 |.tup [_,.tup (.str kind::ax)]=>decide (kind∈G) && GX p day ax
 |_=>false
def cb (h:Int)(kind:Str)(ax:LD):a9 [row h kind ax]=sS kind:=aw rfl (ay (by simp[row,Bn,GW]))
def lb (h:dE k=true):k = "death" \/ k = "lost" \/ k = "found":=by
 unfold dE at h;simp only[or_eq_true,decide_eq_true_eq]at h;rcases h with (h|h)|h
 ·exact .inl h
 ·exact .inr (.inl h)
 ·exact .inr (.inr h)
def mz (h:eU k=true):k = "chosen" \/ k = "heir" \/ k = "leave" \/ k = "paper" \/ k = "like" \/ k = "copy" \/ k = "call":=by
 unfold eU at h;simp only[or_eq_true,decide_eq_true_eq]at h;rcases h with (((((h|h)|h)|h)|h)|h)|h
 ·exact .inl h
 ·exact .inr (.inl h)
 ·exact .inr (.inr (.inl h))
 ·exact .inr (.inr (.inr (.inl h)))
 ·exact .inr (.inr (.inr (.inr (.inl h))))
 ·exact .inr (.inr (.inr (.inr (.inr (.inl h)))))
 ·exact .inr (.inr (.inr (.inr (.inr (.inr h)))))
def JQ (h:dE k=true\/eU k=true):mq bL (.str k) (.str "day")=sI 0:=by
 rcases h with h|h
 ·rcases lb h with rfl|rfl|rfl<;>exact cM
 ·rcases mz h with rfl|rfl|rfl|rfl|rfl|rfl|rfl<;>exact cM
def Bo (h:dE k=true):mq bL (.str k) (.str "person")=sI 1:=by
 rcases lb h with rfl|rfl|rfl<;>exact cM
def GY (h:dE k=true\/eU k=true):dw (.str k) (.str "root")=sO false:=by
 rcases h with h|h
 ·rcases lb h with rfl|rfl|rfl<;>exact cM
 ·rcases mz h with rfl|rfl|rfl|rfl|rfl|rfl|rfl<;>exact cM
def bC {h:Int}{k:Str}{ax:LD}{part:Str}{i:Nat}{d:D}(hi:mq bL (.str k) (.str part)=sI i)(hd:ax[i]? = some d):av [row h k ax,.str part]=some (d,false):=by
 refine aw rfl (ay ?_);refine bR (.tup (.str k::ax)) (.int (1+i)) (by simp[row,Bn]) (bR (.int 1) (.int i) rfl (bR (.str k) (.str part) (aL [row h k ax] rfl (cb _ _ _)) rfl hi) (by simp)) ?_;have G:i<ax.length:=(vV hd).1;have:mH (.str k::ax) (1+(i:Int))=some d:=by
  have:=kK (xs:=(.str k:D)::ax) (j:=i+1) (by simp;omega);rw[show(1+(i:Int))=((i+1:Nat):Int) by omega,this];simp only[List.getElem_cons_succ];rw[vU G]at hd;exact hd
 simp[this]
def sx {h:Int}{k:Str}{ax:LD}{d:Int}{r:LD}(hk:dE k=true\/eU k=true)(G:ax=.int d::r):bi [row h k ax]=sI d:=by
 subst G;refine aw rfl (aD (dQ (bR (.str k) (.str "root") (aL [row h k (.int d::r)] rfl (cb _ _ _)) rfl (GY hk))) (ay (aL [row h k (.int d::r),.str "day"] rfl (bC (i:=0) (JQ hk) rfl))))
def sy (k:Str)(G:LS):AE (.str k) (G.map .str)=decide (k∈G):=by
 induction G with
 |nil=>simp[AE]
 |cons w G M=>
  have:AE (.str k) ((w::G).map .str)=(cV (.str w) (.str k) || AE (.str k) (G.map .str)):=rfl;rw[this,M,ph];by_cases e:w=k
  ·simp[e]
  ·have O:¬k=w:=λz=>e z.symm;simp[e,O]
def oH (G:LS):(G.map D.str).all fQ=true:=by
 induction G with
 |nil=>rfl
 |cons w G M=>simp[fQ]
def nO (k:Str)(G:LS):AF (.str k) (.tup (G.map .str))=sO (decide (k∈G)):=by
 simp only[AF,gd,vJ,sy];rw[if_pos ⟨rfl,oH G⟩]
def GZ (O:oG r)(G:LS)(hw:∀w∈G,dE w=true)(p:Str)(day:Int):qq [r,.tup (G.map .str),.str p,.int day]=sO (told G p day r):=by
 obtain⟨h,kind,ax,rfl,dp⟩:=O;have M:f2 AF (fA a9 (fV 0 aj)) (am 1) [some (row h kind ax,false),sT (G.map .str),sS p,sI day]=sO (decide (kind∈G)) :=
  bR (.str kind) (.tup (G.map .str)) (aL [row h kind ax] rfl (cb _ _ _)) rfl (nO kind G)
 have T:told G p day (row h kind ax)=(decide (kind∈G) && GX p day ax):=rfl;rw[T];refine aw rfl (ay (dc (b1:=false) M λhk=>?_));have h3:=hw kind (Qs hk);obtain⟨d,q,rfl⟩:=dp.three h3;show hG _ _ _=sO (decide (q=p) && decide (d<=day));refine dc (b1:=false) ?_ λ_=>?_
 ·exact bR (.str q) (.str p) (aL [row h kind [.int d,.str q],.str "person"] rfl (bC (i:=1) (Bo h3) rfl)) rfl (by simp)
 ·exact bR (.int d) (.int day) (aL [row h kind [.int d,.str q]] rfl (sx (.inl h3) rfl)) rfl (by simp)
def Ha (ds:LD):ux ds=ds.zipIdx.map λx=>.tup [.int x.2,x.1]:=by
 unfold ux;apply ext_getElem?;intro i;simp[List.getElem?_mapIdx,List.getElem?_zipIdx];cases ds[i]?<;>simp
noncomputable def au (af:LD)(ae:Int):List (D×Nat):=af.zipIdx.filter λx=>decide (ba x.1<=ae)
def lf (af:LD)(G:∀r∈af,oG r)(hl:af.length<=1000)(ae:Int):cH [.tup af,.int ae]=lT ((au af ae).map λx=>.int x.2):=by
 have hc:=gf (fi:=FZ (am 0)) (nT:=2) (cap:=[1]) (tg:=DO [0,1]) (c:=aV (f2 qL (cx 1 0) (am 2))) (fe:=am 0) (ρ:=[sT af,sI ae]) af.zipIdx (λx=>.tup [.int x.2,x.1]) (λx=>decide (ba x.1<=ae)) (λx=>.int x.2)
  (by simp[Ha]) (by simp;omega) λx hx=>by
   obtain⟨h,kind,ax,e,_⟩:=G x.1 (List.fst_mem_of_mem_zipIdx hx);refine⟨_,rfl,dQ ?_,λ_=>⟨false,by simp[eP]⟩⟩;simp[eP,e,row,GW,ba]
 exact aw rfl (ay hc)
def z9 (af:LD)(ae:Int)(G:LS)(p:Str)(day:Int):List (D×Nat):=(au af ae).filter λx=>told G p day x.1
def JR (h:x∈z9 af ae G p day):af[x.2]? = some x.1/\told G p day x.1=true:=by
 obtain⟨h1,h2⟩:=vN h;exact⟨(List.mk_mem_zipIdx_iff_getElem? (x:=x.1) (i:=x.2)).mp (vN h1).1,h2⟩
def bG {af:LD}{i:Nat}{r:D}(h:af[i]? = some r):mH af (i:Int)=some r:=by
 obtain⟨G,e⟩:=vV h;rw[kK G,e]
def JU (af:LD)(ae:Int)(G:LS)(p:Str)(day:Int):(z9 af ae G p day).length<=af.length:=by
 have h1:=vM (λx:D×Nat=>told G p day x.1) (au af ae);have h2:=vM (λx:D×Nat=>decide (ba x.1<=ae)) af.zipIdx;rw[length_zipIdx]at h2;exact vR h1 h2
def CT (af:LD)(M:∀r∈af,oG r)(hl:af.length<=1000)(ae:Int)(G:LS)(hw:∀w∈G,dE w=true)(p:Str)(day:Int):
  j8 [.tup af,.int ae,.tup (G.map .str),.str p,.int day]=lT ((z9 af ae G p day).map λx=>.int x.2):=by
 have hc:=gf (fi:=bK (fA cH (fV 0 (fV 1 aj)))) (nT:=1) (cap:=[2,3,4,0]) (tg:=dF 0) (c:=aV (fA qq (ag (f2 bF (am 4) (am 0)) (fV 1 (fV 2 (fV 3 aj)))))) (fe:=am 0)
  (ρ:=[sT af,sI ae,sT (G.map .str),sS p,sI day]) (au af ae) (λx=>.int x.2) (λx=>told G p day x.1) (λx=>.int x.2)
  (by
   show(fA cH (fV 0 (fV 1 aj)) _).bind _=_;rw[aL [.tup af,.int ae] rfl (lf af M hl ae)];rfl) (by have:=vM (λx:D×Nat=>decide (ba x.1<=ae)) af.zipIdx;rw[length_zipIdx]at this;exact vR this (by omega)) λx hx=>by
   have O:af[x.2]? = some x.1:=(List.mk_mem_zipIdx_iff_getElem? (x:=x.1) (i:=x.2)).mp (vN hx).1;refine⟨_,rfl,dQ (aL [x.1,.tup (G.map .str),.str p,.int day] ?_ (GZ (M _ (vL O)) G hw p day)),λ_=>⟨false,by simp[eP]⟩⟩;have ha:=bG O;simp[eP,ha]
 exact aw rfl (ay hc)
def kA (x:D×Nat):List At:=[.i (aS x.1),.i x.2]
def eN (a b:D×Nat):Bool:=decide (aS a.1<aS b.1\/(aS a.1=aS b.1/\(a.2:Int)<b.2))
def gU:D×Nat->List (D×Nat)->D×Nat
 |b,[]=>b
 |b,x::r=>if eN b x=true then gU x r else gU b r
def PJ:List (D×Nat)->Option (D×Nat)
 |[]=>none
 |x::r=>some (gU x r)
def Nj (a b c d:Int):bu [.i a,.i b] [.i c,.i d]=some (decide (a<c\/(a=c/\b<d))):=by
 rw[bu];by_cases h:a=c
 ·rw[if_pos h,bu];by_cases h2:b=d
  ·rw[if_pos h2,bu];simp[h,h2]
  ·rw[if_neg h2];simp[h]
 ·rw[if_neg h];simp[h]
def Bp (a b:D×Nat):bu (kA a) (kA b)=some (eN a b):=Nj _ _ _ _
def CU (l:List (D×Nat)):dn (l.map kA)=true:=by
 unfold dn;simp[all_eq_true,Bp]
theorem oJ:∀(r:List (D×Nat))(b:D×Nat),np (kA b,.int b.2) (r.map λx=>(kA x,D.int x.2))=.int (gU b r).2
 |[],b=>rfl
 |x::r,b=>by
  rw[uY,np,gU];show(if bu (kA b) (kA x)=some true then _ else _)=_;rw[Bp];by_cases h:eN b x=true
  ·rw[if_pos h,if_pos (by rw[h])];exact oJ r x
  ·rw[if_neg h,if_neg (by simpa using h)];exact oJ r b
theorem sA:∀(r:List (D×Nat))(b:D×Nat),gU b r∈b::r
 |[],b=>by simp[gU]
 |x::r,b=>by
  rw[gU];split
  ·exact mZ _ (sA r x)
  ·rcases vP (sA r b)with h|h
   ·rw[h];exact mX
   ·exact mZ _ (mZ _ h)
theorem j9 {α:Type}{f:D->Option D}{g h:α->D}:∀(l:List α),(∀x∈l,f (g x)=some (h x))->jL f (l.map g)=some (l.map h)
 |[],_=>rfl
 |x::l,hx=>by
  rw[uY,jL,hx x mX,vJ,j9 l λy hy=>hx y (mZ _ hy)];rfl
theorem jA {α:Type}{g:α->D}{h:α->List At}:∀(l:List α),(∀x∈l,ng (g x)=some (h x))->dH (l.map g)=some (l.map h)
 |[],_=>rfl
 |x::l,hx=>by
  rw[uY,dH,hx x mX,vJ,jA l λy hy=>hx y (mZ _ hy)];rfl
noncomputable def pK:LS:=[("lost" : Str),"found"]
def pL:∀w∈pK,dE w=true:=by
 intro w hw;rcases vP hw with rfl|hw
 ·decide +kernel
 ·rcases vP hw with rfl|hw
  ·decide +kernel
  ·cases hw
def zF (af:LD)(ae:Int)(p:Str)(day:Int):Bool:=match PJ (z9 af ae pK p day) with
 |none=>true
 |some b=>decide (kindOf b.1 = "found")
def Bq (hw:∀w∈T,dE w=true)(M:oG r)(O:told T p day r=true):∃h k d,r=row h k [.int d,.str p]/\dE k=true/\k∈T/\d<=day:=by
 obtain⟨h,kind,ax,rfl,dp⟩:=M;have G:(decide (kind∈T) && GX p day ax)=true:=O;rw[vC]at G;have hm:=Qs G.1;obtain⟨d,q,rfl⟩:=dp.three (hw _ hm);have hq:(decide (q=p) && decide (d<=day))=true:=G.2;rw[vC]at hq;have:=Qs hq.1;subst this;exact⟨h,kind,d,rfl,hw _ hm,hm,Qs hq.2⟩
def JV {af:LD}{i:Nat}{h d:Int}{k p:Str}(G:af[i]? = some (row h k [.int d,.str p]))(h3:dE k=true):gS [.tup af,.int i]=sT [.int d,.int i]:=by
 have ha:=bG G;refine aw rfl (ay (aL [.int d,.int i] (aQ (d:=.int d) (b:=false) (aL [row h k [.int d,.str p]] (by simp[ha]) (sx (.inl h3) rfl)) rfl) (by simp[sizeLine])))
def JX (af:LD)(a:∀r∈af,oG r)(hl:af.length<=1000)(ae:Int)(p:Str)(day:Int):mu [.tup af,.int ae,.str p,.int day]=sO (zF af ae p day):=by
 have c:=CT af a hl ae pK pL p day;have U:=JU af ae pK p day;have M:∀x∈z9 af ae pK p day,∃h k d,af[x.2]? = some (row h k [.int d,.str p])/\x.1=row h k [.int d,.str p]/\dE k=true:=λx hx=>by
  obtain⟨O,g⟩:=JR hx;obtain⟨h,k,d,e,h3,_⟩:=Bq pL (a _ (vL O)) g;exact⟨h,k,d,by rw[O,e],e,h3⟩
 unfold zF;generalize f:z9 af ae pK p day=sel at c M U |-;have G:fA j8 (fV 0 (fV 1 (ag (fA bo (ag (fS "lost") (ag (fS "found") aj))) (fV 2 (fV 3 aj))))) [sT af,sI ae,sS p,sI day,none]=lT (sel.map λx=>.int x.2) :=
  aL [.tup af,.int ae,.tup (pK.map .str),.str p,.int day] (by simp[pK,sizeLine]) c
 have T:bB (sel.map λx=>D.int x.2)=true:=c7 λd hd=>by obtain⟨x,_,rfl⟩:=vO hd;rfl
 cases sel with
 |nil=>exact aw rfl (dq G T (bw (dQ (by simp)) (ay rfl)))
 |cons x r=>
  refine aw rfl (dq G T (aD (dQ (by simp;omega)) (ay ?_)));obtain⟨h,k,d,O,e,h3⟩:=M (gU x r) (sA r x);have hb:kindOf (gU x r).1=k:=by rw[e];rfl
  show _=some (D.bl (decide (kindOf (gU x r).1 = "found")),false);rw[hb];refine bR (.str k) (.str "found") (aL [row h k [.int d,.str p]] (aQ (d:=row h k [.int d,.str p]) (b:=false) (bR (.tup af) (.int (gU x r).2) rfl ?_ (by simp[bG O])) rfl) (cb _ _ _)) rfl (by simp);have hm:∀ρ:DL.Env,ρ[0]? = some (sT af)->jL (xw [0] (fA gS (fV 1 (fV 0 aj))) ρ) ((x::r).map λx=>D.int x.2)=some ((x::r).map λx=>.tup [.int (aS x.1),.int x.2]):=λρ h0=>
   j9 (x::r) λy hy=>by
    obtain⟨h,k,d,O,e,h3⟩:=M y hy;have hd:aS y.1=d:=by rw[e];rfl
    rw[hd];show(fA gS _ _).map _=_;rw[aL [.tup af,.int y.2] (by simp[eP,h0]) (JV O h3)];rfl
  have hk:dH ((x::r).map λx=>D.tup [.int (aS x.1),.int x.2])=some ((x::r).map kA):=jA (x::r) λy _=>rfl;have hz:((x::r).map kA).zip ((x::r).map λx=>D.int x.2)=(kA x,.int x.2)::r.map λx=>(kA x,D.int x.2):=by
   rw[zip_map'];rfl
  show(uL (am 4) _ _)=_;unfold uL Ol;show((some (D.lst ((x::r).map λx=>D.int x.2),false)).bind _)=_;simp only[vJ];rw[hm _ rfl];simp only[vJ];rw[hk];simp only[vJ];rw[if_pos (CU _),hz];simp only[oJ]
noncomputable def oK:LS:=[("death" : Str)]
def xI:∀w∈oK,dE w=true:=by
 intro w hw;rcases vP hw with rfl|hw
 ·decide +kernel
 ·cases hw
def sC (af:LD)(ae:Int)(p:Str)(day:Int):Bool:=(z9 af ae oK p day).isEmpty
def Hb (af:LD)(M:∀r∈af,oG r)(hl:af.length<=1000)(ae:Int)(p:Str)(day:Int):xE [.tup af,.int ae,.str p,.int day]=sO (sC af ae p day):=by
 have G:=CT af M hl ae oK xI p day;unfold sC;generalize z9 af ae oK p day=O at G |-;refine aw rfl (ay (bR (.int ((O.map λx=>D.int x.2).length:Nat)) (.int 0) ?_ rfl ?_))
 ·exact aL [.lst (O.map λx=>.int x.2)] (aQ (d:=.lst (O.map λx=>.int x.2)) (b:=true) (aL [.tup af,.int ae,.tup (oK.map .str),.str p,.int day] (by simp[sizeLine,oK]) G) rfl) JN
 ·rw[JP];cases O<;>simp
  omega
noncomputable def dm:D->Str
 |.tup [_,.tup (_::_::.str p::_)]=>p
 |_=>("" : Str)
noncomputable def zG:LS:=[("chosen" : Str),"heir","leave","paper","like","copy","call"]
def sD (k:Str):eU k=decide (k∈zG):=by
 unfold eU zG;simp[mem_cons,Bool.or_assoc]
def Br:iB=.tup (zG.map .str):=rfl
def lg (k:Str)(G:LS):da (.str k) (.tup (G.map .str))=sO (!decide (k∈G)):=by
 simp only[da,gd,vJ,sy];rw[if_pos ⟨rfl,oH G⟩]
def Hd (h:eU k=true):mq bL (.str k) (.str "by")=sI 1:=by
 rcases mz h with rfl|rfl|rfl|rfl|rfl|rfl|rfl<;>exact cM
def gV (af:LD)(ae:Int)(r:D):Bool:=(decide (ba r<=ae) && eU (kindOf r)) && (sC af ae (dm r) (aS r) && zF af ae (dm r) (aS r))
def lh {af:LD}{i:Nat}{h:Int}{kind:Str}{ax:LD}(G:af[i]? = some (row h kind ax))(ae:Int):cD [.tup af,.int ae,.int i]=sO (decide (h<=ae)):=by
 have M:i<af.length:=(vV G).1;have ha:=bG G;refine aw rfl (ay ?_);have:=dc (f1:=iu qL EO (fI 0) (am 2) (fA dJ (fV 0 aj))) (f2:=f2 qL (f2 bF (f2 bF (am 0) (am 2)) (fI 0)) (am 1)) (ρ:=[sT af,sI ae,sI i]) (p:=true) (q:=decide (h<=ae)) (b1:=false)
  (by
   refine(zr (x:=.int 0) (y:=.int i) (z:=.int af.length) (b1:=false) (b2:=false) (b3:=false) (b4:=false) (p:=true) (q:=true) rfl rfl (by simp) (by simp) λ_=>?_).trans rfl;simp;omega) λ_=>by simp[ha,row,GW]
 exact this
def sE (af:LD)(O:∀r∈af,oG r)(hl:af.length<=1000)(ae:Int){i:Nat}{r:D}(T:af[i]? = some r):eC [.tup af,.int ae,.int i]=sO (gV af ae r):=by
 obtain⟨h,kind,ax,rfl,dp⟩:=O r (vL T);have hk:=lh T ae;have ha:=bG T;have M:∀(ρ:DL.Env),f2 bF (am 0) (am 2) ρ=some (row h kind ax,false)->fA a9 (ag (f2 bF (am 0) (am 2)) aj) ρ=sS kind:=λρ e=>aL [row h kind ax] (aQ e rfl) (cb _ _ _);have G:f2 bF (am 0) (am 2) [sT af,sI ae,sI i,none,none]=some (row h kind ax,false):=by simp[ha]
 have hc:(fO (cm (aV (fA cD (fV 0 (fV 1 (fV 2 aj)))))) (aV (f2 da (fA a9 (ag (f2 bF (am 0) (am 2)) aj)) (fC iB)))) [sT af,sI ae,sI i,none,none]=some (!decide (h<=ae) || !eU kind):=by
  refine fW (bX (dQ (aL [.tup af,.int ae,.int i] rfl hk))) λ_=>dQ (bR (.str kind) iB (M _ G) rfl ?_);rw[Br,sD];exact lg kind zG
 have hs:gV af ae (row h kind ax)=((decide (h<=ae) && eU kind) && (sC af ae (dm (row h kind ax)) (aS (row h kind ax)) && zF af ae (dm (row h kind ax)) (aS (row h kind ax)))):=rfl;cases hb:(decide (h<=ae) && eU kind) with
 |false=>
  rw[hs,hb];refine aw rfl (bw (hc.trans ?_) (ay rfl));rw[<-Bool.not_and,hb];rfl
 |true=>
  rw[hs,hb];rw[vC]at hb;obtain⟨day,p,U,rfl⟩:=dp.slg hb.2;show _=some (D.bl (true && (sC af ae p day && zF af ae p day)),false);rw[Bool.true_and];refine aw rfl (aD (hc.trans (by rw[hb.1,hb.2];rfl)) (kO (.str p) (aL [row h kind (.int day::.str p::U),.str "by"] (aQ G rfl) (bC (i:=1) (Hd hb.2) rfl)) rfl (kO (.int day) (aL [row h kind (.int day::.str p::U)] (aQ (d:=row h kind (.int day::.str p::U)) (b:=false) (by simp[ha]) rfl) (sx (.inr hb.2) rfl)) rfl (ay ?_))));exact dc (b1:=false) (aL [.tup af,.int ae,.str p,.int day] (by simp) (Hb af O hl ae p day)) λ_=>aL [.tup af,.int ae,.str p,.int day] (by simp) (JX af O hl ae p day)
inductive Cd:Str->List D->Prop
 |root (o r:Str) (m f:Int):Cd ("root" : Str) [.str o,.int m,.int f,.str r]
 |named (d:Int) (o p:Str):Cd ("named" : Str) [.int d,.str o,.str p]
 |three (k:Str) (hk:k = "lost" \/ k = "found") (d:Int) (p:Str):Cd k [.int d,.str p]
 |other (k:Str) (hk:k = "leave" \/ k = "paper" \/ k = "like" \/ k = "copy" \/ k = "call") (d:Int) (b:Str) (r:List D) (hf:bB r=true) (hp:r.all (aH 5)=true):Cd k (.int d::.str b::r)
def Cd.deed (h:Cd k r):DeedP k r:=by
 cases h with
 |root o rl m f=>exact⟨rfl,by simp,λh=>jo h,λh=>jo h⟩
 |named d o p=>exact⟨rfl,by simp,λh=>jo h,λh=>jo h⟩
 |three k hk d p=>exact⟨rfl,by simp,λ_=>⟨d,p,rfl⟩,λh=>by rcases hk with rfl|rfl<;>exact jo h⟩
 |other k hk d b r hf hp=>exact⟨by simp[hf],by simp only[all_cons,hp,aH,Bool.and_true],λh=>by rcases hk with rfl|rfl|rfl|rfl|rfl<;>exact jo h,λ_=>⟨d,b,r,rfl⟩⟩
def xJ (r:D):Prop:=∃h k ax,r=row h k ax/\Cd k ax
def xJ.rp (h:xJ r):oG r:=by obtain⟨a,k,ax,rfl,d⟩:=h;exact⟨a,k,ax,rfl,d.deed⟩
def bj (r:D):Bool:=decide (kindOf r = "root")
def Cd.day (h:Cd k r)(hk:k ≠ "root"):∃d q,r=.int d::q:=by
 cases h with
 |root=>exact absurd rfl hk
 |named d=>exact⟨d,_,rfl⟩
 |three _ _ d=>exact⟨d,_,rfl⟩
 |other _ _ d=>exact⟨d,_,rfl⟩
def Cd.day_idx (h:Cd k r)(hk:k ≠ "root"):mq bL (.str k) (.str "day")=sI 0:=by
 cases h with
 |root=>exact absurd rfl hk
 |named=>exact cM
 |three _ hh=>rcases hh with rfl|rfl|rfl<;>exact cM
 |other _ hh=>rcases hh with rfl|rfl|rfl|rfl|rfl<;>exact cM
def cE (e:f ρ=some (.str a,bb))(h:decide (a=b)=x):aV (f2 dw f (fS b)) ρ=some x:=dQ (c9 (x:=.str a) (y:=.str b) (b1:=bb) (b2:=false) e rfl (by rw[<-h];simp))
def xK (r:D):D:=if bj r=true then .non else .int (aS r)
def iK (g:xJ r):a9 [r]=sS (kindOf r):=by
 obtain⟨h,k,ax,rfl,_⟩:=g;exact cb h k ax
def wc (g:xJ r):bi [r]=some (xK r,false):=by
 obtain⟨h,k,ax,rfl,d⟩:=g;unfold xK;by_cases hk:k = "root"
 ·have:bj (row h k ax)=true:=As hk;rw[if_pos this];exact aw rfl (bw (cE (a:=k) (bb:=false) (aL [row h k ax] rfl (cb _ _ _)) (As hk)) (ay rfl))
 ·have:bj (row h k ax)=false:=Qn hk;rw[if_neg (by rw[this];decide)];obtain⟨dd,q,rfl⟩:=d.day hk;exact aw rfl (aD (cE (a:=k) (bb:=false) (aL [row h k (.int dd::q)] rfl (cb _ _ _)) (Qn hk)) (ay (aL [row h k (.int dd::q),.str "day"] rfl (bC (i:=0) (d.day_idx hk) rfl))))
def jb (af:LD):Prop:=af.length<=60/\∀r∈af,xJ r
def jb.rp (g:jb af):∀r∈af,oG r:=λr G=>(g.2 r G).rp
def jb.le (g:jb af):af.length<=1000:=vR g.1 (by decide)
def bc (h:x∈au af ae):af[x.2]? = some x.1:=by
 obtain⟨h1,_⟩:=vN h;exact List.mem_zipIdx_iff_getElem?.mp h1
def cF (af:LD)(ae:Int):(au af ae).length<=af.length:=by
 have:=vM (λx:D×Nat=>decide (ba x.1<=ae)) af.zipIdx;rw[length_zipIdx]at this;exact this
def fX (af:LD)(ae:Int):((au af ae).map (·.2)).Nodup:=by
 have h1:(af.zipIdx.map (·.2)).Nodup:=by rw[List.zipIdx_map_snd];exact List.nodup_range'
 exact List.Nodup.sublist (List.Sublist.map _ (filter_sublist)) h1
def di (af:LD)(ae:Int):List (D×Nat):=(au af ae).filter λx=>!bj x.1
def PK (af:LD)(ae:Int):List (D×Nat):=dO (λx=>c8 (kA x)) (di af ae)
def He (h:c8 (kA a)=c8 (kA b)):a.2=b.2:=by
 have h:[aS a.1,(a.2:Int)]=[aS b.1,(b.2:Int)]:=h;injection h with _ h;injection h with h;omega
def xL (ha:a∈au af ae)(hb:b∈au af ae)(h:a.2=b.2):a=b:=by
 have h1:=bc ha;have h2:=bc hb;rw[h,h2]at h1;exact Prod.ext (vK h1).symm h
def lm (g:jb af)(ae:Int):cR [.tup af,.int ae]=lT ((PK af ae).map λx=>.int x.2):=by
 have hl:=g.1;have l:=cF af ae;have M:∀x∈au af ae,mH af (x.2:Int)=some x.1/\xJ x.1:=λx hx=>⟨bG (bc hx),g.2 _ (vL (bc hx))⟩;have hc:=gf (fi:=bK (fA cH (fV 0 (fV 1 aj)))) (nT:=1) (cap:=[0]) (tg:=dF 0) (c:=aV (f2 ky (fA bi (ag (f2 bF (am 1) (am 0)) aj)) (fC .non))) (fe:=am 0) (ρ:=[sT af,sI ae,none]) (au af ae) (λx=>.int x.2) (λx=>!bj x.1) (λx=>.int x.2)
  (by
   show(fA cH (fV 0 (fV 1 aj)) _).bind _=_;rw[aL [.tup af,.int ae] rfl (lf af g.rp g.le ae)];rfl) (by omega) λx hx=>by
   obtain⟨ha,T⟩:=M x hx;refine⟨_,rfl,dQ (bR (xK x.1) .non (aL [x.1] (by simp[eP,ha]) (wc T)) rfl ?_),λ_=>⟨false,by simp[eP]⟩⟩;unfold xK;cases bj x.1<;>simp[qM]
 have U:bS (bK (fA cH (fV 0 (fV 1 aj)))) 1 [0] (dF 0) (aV (f2 ky (fA bi (ag (f2 bF (am 1) (am 0)) aj)) (fC .non))) (am 0) [sT af,sI ae,none]=lT ((di af ae).map λx=>.int x.2):=hc;have i:bB ((di af ae).map λx=>D.int x.2)=true:=c7 λd hd=>by obtain⟨x,_,rfl⟩:=vO hd;rfl
 have m:(di af ae).length<=60:=vR (vM _ _) (by omega);have G:∀x∈di af ae,x∈au af ae/\bj x.1=false:=λx hx=>by
  obtain⟨h1,h2⟩:=vN hx;exact⟨h1,by simpa using h2⟩
 have hm:∀ρ:DL.Env,ρ[0]? = some (sT af)->jL (xw [0] (fA gS (fV 1 (fV 0 aj))) ρ) ((di af ae).map λx=>.int x.2)=some ((di af ae).map λx=>.tup [.int (aS x.1),.int x.2]):=λρ h0=>
  j9 (di af ae) λx hx=>by
   obtain⟨h1,h2⟩:=G x hx;obtain⟨ha,T⟩:=M x h1;have hd:=wc T;unfold xK at hd;rw[h2,if_neg (by decide)]at hd;have j:gS [.tup af,.int x.2]=sT [.int (aS x.1),.int x.2]:=aw rfl (ay (aL [.int (aS x.1),.int x.2] (aQ (d:=.int (aS x.1)) (b:=false) (aL [x.1] (by simp[ha]) hd) rfl) (by simp[sizeLine])));show(fA gS _ _).map _=_;rw[aL [.tup af,.int x.2] (by simp[eP,h0]) j];rfl
 have hk:dH ((di af ae).map λx=>D.tup [.int (aS x.1),.int x.2])=some ((di af ae).map kA):=jA _ λx _=>rfl;have hz:((di af ae).map kA).zip ((di af ae).map λx=>D.int x.2)=(di af ae).map λx=>(kA x,D.int x.2):=by rw[zip_map']
 have k:((di af ae).map (·.2)).Nodup:=List.Nodup.sublist (List.Sublist.map _ (filter_sublist)) (fX af ae);have O:((di af ae).map kA).length<64/\dn ((di af ae).map kA)=true/\dG ((di af ae).map kA)=true/\(((di af ae).map kA).map c8).Nodup:=by
  refine⟨by rw[vI];omega,CU _,?_,?_⟩
  ·unfold dG;rw[or_eq_true];left;simp[all_eq_true,kA]
  ·rw[uP];exact List.Pairwise.map _ (λa b h e=>h (He e)) (pairwise_map.mp k)
 refine aw rfl (dq U i (ay ?_));show(rj (am 2) _ _)=_;unfold rj;show((some (D.lst ((di af ae).map λx=>D.int x.2),false)).bind _)=_;simp only[vJ];rw[hm _ rfl];simp only[vJ];rw[hk];simp only[vJ];rw[if_pos O];unfold j4;rw[hz];have f:((PK af ae).map λx=>(kA x,D.int x.2))=dO (λp:List At×D=>c8 p.1) ((di af ae).map λx=>(kA x,D.int x.2)):=by
  refine jx _ (λx hx y hy e=>?_) ((aZ _ _).map _) ?_
  ·obtain⟨a,ha,rfl⟩:=vO hx;obtain⟨b,hb,rfl⟩:=vO hy;rw[xL (G a ha).1 (G b hb).1 (He e)]
  ·exact pairwise_map.mpr (ee _ _)
 rw[<-f,uP];rfl
structure Cl where
 o:Str
 p:Str
 s:Int
 u:Option Int
 n:Nat
noncomputable def uD:OI->D
 |none=>.non
 |some x=>.int x
def bM (c:Cl):D:=.tup [.str c.o,.str c.p,.int c.s,uD c.u,.int c.n]
def CV (u:OI):b8 (uD u)=true:=by cases u<;>rfl
def zH (c:Cl):b8 (bM c)=true:=by simp[bM,CV]
def zI (cs:List Cl):bB (cs.map bM)=true:=c7 λd hd=>by obtain⟨c,_,rfl⟩:=vO hd;exact zH c
noncomputable def Bt (c:Cl)(day:Int):Bool:=decide (c.s<=day) && (match c.u with|none=>true|some x=>decide (day<x))
def Si (d e f g:D)(r:LD):mH (d::e::f::g::r) 3=some g:=by have:=kK (xs:=d::e::f::g::r) (j:=3) (by simp);simpa using this
def VJ (d e f g h:D)(r:LD):mH (d::e::f::g::h::r) 4=some h:=by have:=kK (xs:=d::e::f::g::h::r) (j:=4) (by simp);simpa using this
def Uo (c:Cl):bF (bM c) (.int 0)=sS c.o:=by simp[bM,GW]
def Rb (c:Cl):bF (bM c) (.int 1)=sS c.p:=by simp[bM,Bn]
def Sj (c:Cl):bF (bM c) (.int 2)=sI c.s:=by simp[bM,Um]
def VL (c:Cl):bF (bM c) (.int 3)=some (uD c.u,false):=by simp[bM,Si]
def Sk (c:Cl):bF (bM c) (.int 4)=sI c.n:=by simp[bM,VJ]
def cG (ds:LD)(h:ds.length<=100):bo ds=sT ds:=if_pos (fu (by omega))
def fK (ds:LD)(h:ds.length<=100):cw ds=lT ds:=if_pos (fu (by omega))
def xM (s day:Int)(u:OI):gu [.int day,.tup [.int s,uD u]]=sO (decide (s<=day) && (match u with|none=>true|some x=>decide (day<x))):=by
 refine aw rfl (ay (dc (b1:=false) (by simp[GW]) λ_=>?_));cases u with
 |none=>exact lS (p:=true) (q:=true) (b1:=false) (by simp[Bn,uD]) (by simp)
 |some x=>exact lS (p:=false) (q:=decide (day<x)) (b1:=false) (by simp[Bn,uD]) λ_=>by simp[Bn,uD]
def Hf (c:Cl)(day:Int):iF [bM c,.int day]=sO (Bt c day) :=
 aw rfl (ay (aL [.int day,.tup [.int c.s,uD c.u]] (ce rfl (ce (aL [.int c.s,uD c.u] (aQ (bR (bM c) (.int 2) rfl rfl (Sj c)) (aQ (bR (bM c) (.int 3) rfl rfl (VL c)) rfl)) (cG _ (by simp))) rfl)) (xM c.s day c.u)))
def zJ (c:Cl):dC [bM c]=sT [.int c.s,.int c.n] :=
 aw rfl (ay (aL [.int c.s,.int c.n] (aQ (bR (bM c) (.int 2) rfl rfl (Sj c)) (aQ (bR (bM c) (.int 4) rfl rfl (Sk c)) rfl)) (cG _ (by simp))))
def xN (c:Cl):gL [bM c]=sT [.str c.o,.int c.s,.int c.n] :=
 aw rfl (ay (aL [.str c.o,.int c.s,.int c.n] (aQ (bR (bM c) (.int 0) rfl rfl (Uo c)) (aQ (bR (bM c) (.int 2) rfl rfl (Sj c)) (aQ (bR (bM c) (.int 4) rfl rfl (Sk c)) rfl))) (cG _ (by simp))))
noncomputable def kS (c:Cl):List At:=[.i c.s,.i c.n]
def nQ:Cl->List Cl->Cl
 |b,[]=>b
 |b,x::r=>if bu (kS x) (kS b)=some true then nQ x r else nQ b r
def tY:Cl->List Cl->Cl
 |b,[]=>b
 |b,x::r=>if bu (kS b) (kS x)=some true then tY x r else tY b r
theorem sG:∀(r:List Cl)(b:Cl),rm (kS b,bM b) (r.map λx=>(kS x,bM x))=bM (nQ b r)
 |[],b=>rfl
 |x::r,b=>by
  rw[uY,rm,nQ];split
  ·exact sG r x
  ·exact sG r b
theorem sJ:∀(r:List Cl)(b:Cl),np (kS b,bM b) (r.map λx=>(kS x,bM x))=bM (tY b r)
 |[],b=>rfl
 |x::r,b=>by
  rw[uY,np,tY];split
  ·exact sJ r x
  ·exact sJ r b
def CW (cs:List Cl):dn (cs.map kS)=true:=by
 unfold dn;simp[all_eq_true,kS,Nj]
def sK (ρ:DL.Env)(cs:List Cl):jL (tW dC ρ) (cs.map bM)=some (cs.map λc=>.tup [.int c.s,.int c.n]):=j9 cs λc _=>by
 show(dC [bM c]).map _=_;rw[zJ];rfl
def pM (cs:List Cl):dH (cs.map λc=>D.tup [.int c.s,.int c.n])=some (cs.map kS):=jA cs λc _=>rfl
def Hg (e:f ρ=some (.lst ((b::r).map bM),bb)):Cy f (tW dC) ρ=some (bM (nQ b r),false):=by
 unfold Cy Ol;rw[e,vJ];dsimp only;rw[sK,vJ,pM,vJ,if_pos (CW _)];have:((b::r).map kS).zip ((b::r).map bM)=(kS b,bM b)::r.map λx=>(kS x,bM x):=by rw[zip_map'];rfl
 rw[this];show some (rm _ _,false)=_;rw[sG]
def Nk (e:f ρ=some (.lst ((b::r).map bM),bb)):uL f (tW dC) ρ=some (bM (tY b r),false):=by
 unfold uL Ol;rw[e,vJ];dsimp only;rw[sK,vJ,pM,vJ,if_pos (CW _)];have:((b::r).map kS).zip ((b::r).map bM)=(kS b,bM b)::r.map λx=>(kS x,bM x):=by rw[zip_map'];rfl
 rw[this];show some (np _ _,false)=_;rw[sJ]
def iL (rl:Str)(b:Cl)(r:List Cl):Cl:=if rl = "last" then tY b r else nQ b r
def Hh (rl:Str)(b:Cl)(r:List Cl):mv [.lst ((b::r).map bM),.str rl]=sS (iL rl b r).p:=by
 unfold iL;by_cases h:rl = "last"
 ·rw[if_pos h];exact aw rfl (bw (cE (a:=rl) (bb:=false) rfl (As h)) (ay (bR (bM (tY b r)) (.int 1) (Nk (bb:=false) rfl) rfl (Rb _))))
 ·rw[if_neg h];exact aw rfl (aD (cE (a:=rl) (bb:=false) rfl (Qn h)) (ay (bR (bM (nQ b r)) (.int 1) (Hg (bb:=false) rfl) rfl (Rb _))))
theorem sM:∀(r:List Cl)(b:Cl),nQ b r∈b::r
 |[],b=>by simp[nQ]
 |x::r,b=>by
  rw[nQ];split
  ·exact mZ _ (sM r x)
  ·rcases vP (sM r b)with h|h
   ·rw[h];exact mX
   ·exact mZ _ (mZ _ h)
theorem sP:∀(r:List Cl)(b:Cl),tY b r∈b::r
 |[],b=>by simp[tY]
 |x::r,b=>by
  rw[tY];split
  ·exact mZ _ (sP r x)
  ·rcases vP (sP r b)with h|h
   ·rw[h];exact mX
   ·exact mZ _ (mZ _ h)
def Et (rl:Str)(b:Cl)(r:List Cl):iL rl b r∈b::r:=by
 unfold iL;split
 ·exact sP r b
 ·exact sM r b
noncomputable def Oo (cs:List Cl)(o:Str)(day:Int):List Cl:=cs.filter λc=>decide (c.o=o) && Bt c day
def m8 (cs:List Cl):LS:=kG (gG (cs.map (·.p)))
def PL:List Cl->Nat
 |[]=>0
 |b::r=>(nQ b r).n
def pN (rl:Str):List Cl->D
 |[]=>.tup [.str "none"]
 |b::r=>if 1<(m8 (b::r)).length/\rl = "open" then .tup [.str "parted",.lst ((m8 (b::r)).map .str)]
  else .tup [.str "one",.str (iL rl b r).p,.int (PL ((b::r).filter λc=>decide (c.p=(iL rl b r).p)))]
def kg (cs:List Cl)(o rl:Str)(day:Int):D:=pN rl (Oo cs o day)
def JY {z:Str}:gG (z::zs)≠[]:=by
 have:∀(ss:LS)(G:LS),z∈G->z∈ss.foldl ji G:=λss=>by
  induction ss with
  |nil=>intro G h;exact h
  |cons a l M=>intro G h;exact M _ (qR.mpr (.inl h))
 have h:=this zs (ji [] z) (qR.mpr (.inr rfl));intro e;unfold gG at e;rw[foldl_cons]at e;rw[e]at h;cases h
def ln:av [row h ("root" : Str) [.str o,.int m,.int f,.str rl],.str "office"]=sS o:=bC (i:=0) cM rfl
def Eu:av [row h ("root" : Str) [.str o,.int m,.int f,.str rl],.str "rule"]=sS rl:=bC (i:=3) cM rfl
def zK (zs:LS):ju (zs.map .str)=some zs:=by
 induction zs with
 |nil=>rfl
 |cons z zs G=>simp[G]
def nR (cs:List Cl)(hl:cs.length<=60)(day:Int):eE [.lst (cs.map bM),row h ("root" : Str) [.str o,.int m,.int f,.str rl],.int day]=some (kg cs o rl day,false):=by
 let rt:D:=row h ("root" : Str) [.str o,.int m,.int f,.str rl];have h1:=gf (fi:=bK (am 0)) (nT:=1) (cap:=[2,1]) (tg:=dF 0) (c:=fN (aV (f2 dw (cx 0 0) (fA av (fV 2 (ag (fS "office") aj))))) (aV (fA iF (fV 0 (fV 1 aj))))) (fe:=am 0)
  (ρ:=[sL (cs.map bM),some (rt,false),sI day,none,none,none,none]) cs bM (λc=>decide (c.o=o) && Bt c day) bM (by simp) (by omega) λc hc=>by
   refine⟨_,rfl,fz (dQ (bR (.str c.o) (.str o) (bR (bM c) (.int 0) (by simp[eP]) rfl (Uo c)) (aL [rt,.str "office"] (by simp[eP]) ln) (by simp))) λ_=>dQ (aL [bM c,.int day] (by simp[eP]) (Hf c day)),λ_=>⟨false,by simp[eP]⟩⟩
 have T:bS (bK (am 0)) 1 [2,1] (dF 0) (fN (aV (f2 dw (cx 0 0) (fA av (fV 2 (ag (fS "office") aj))))) (aV (fA iF (fV 0 (fV 1 aj))))) (am 0) [sL (cs.map bM),some (rt,false),sI day,none,none,none,none]=lT ((Oo cs o day).map bM):=h1;have d:(Oo cs o day).length<=60:=vR (vM _ _) hl;unfold kg;generalize Oo cs o day=al at T d;have h2:∀ρ:DL.Env,ρ[3]? = some (lT (al.map bM))->f1 jw (bS (bK (am 3)) 1 [] (dF 0) gX (cx 0 1)) ρ=lT ((m8 al).map .str):=λρ h3=>by
  have hc:=vk (fi:=bK (am 3)) (nT:=1) (cap:=[]) (tg:=dF 0) (fe:=cx 0 1) (ρ:=ρ) al bM (λc=>.str c.p) (by simp[h3]) (by omega) λc hc=>⟨_,rfl,false,bR (bM c) (.int 1) (by simp[eP]) rfl (Rb c)⟩;have e2:al.map (λc=>D.str c.p)=(al.map (·.p)).map .str:=by rw[uP];rfl
  rw[e2]at hc;unfold f1;rw[hc,vJ];show(ju ((al.map (·.p)).map .str)).bind _=_;rw[zK,vJ,if_pos (by rw[vI];omega)];rfl
 have g:bB ((m8 al).map D.str)=true:=eG _;refine aw rfl (dq (ds:=al.map bM) T (zI al) (dq (ds:=(m8 al).map .str) (h2 _ rfl) g ?_));cases al with
 |nil=>exact bw (dQ (by simp[m8,gG,kG])) (ay (aL [.str "none"] rfl (cG _ (by simp))))
 |cons b r=>
  have i:(m8 (b::r)).length≠0:=by
   unfold m8;rw[(fB _).length_eq];intro e;exact JY (List.length_eq_zero_iff.mp e)
  refine aD (dQ (by simp[i])) ?_;have G:∀ρ:DL.Env,ρ[1]? = some (some (rt,false))->fA av (fV 1 (ag (fS "rule") aj)) ρ=sS rl:=λρ j=>aL [rt,.str "rule"] (by simp[j]) Eu;by_cases hp:1<(m8 (b::r)).length/\rl = "open"
  ·have:pN rl (b::r)=.tup [.str "parted",.lst ((m8 (b::r)).map .str)]:=by rw[pN,if_pos hp]
   rw[this];exact bw (fz (p:=true) (q:=true) (dQ (by simp;omega)) λ_=>cE (bb:=false) (G _ rfl) (As hp.2)) (ay (aL [.str "parted",.lst ((m8 (b::r)).map .str)] (by simp) (cG _ (by simp))))
  ·have:pN rl (b::r)=.tup [.str "one",.str (iL rl b r).p,.int (PL ((b::r).filter λc=>decide (c.p=(iL rl b r).p)))]:=by rw[pN,if_neg hp]
   rw[this];have M:fN (aV (f2 BS (fA dJ (fV 4 aj)) (fI 1))) (aV (f2 dw (fA av (fV 1 (ag (fS "rule") aj))) (fS "open"))) [sL (cs.map bM),some (rt,false),sI day,lT ((b::r).map bM),lT ((m8 (b::r)).map .str),none,none]=some false:=by
    by_cases h5:1<(m8 (b::r)).length
    ·exact fz (p:=true) (q:=false) (dQ (by simp;omega)) λ_=>cE (bb:=false) (G _ rfl) (Qn λe=>hp ⟨h5,e⟩)
    ·exact fz (p:=false) (q:=false) (dQ (by simp;omega)) (by simp)
   have U:=Et rl b r;let ch:=iL rl b r;have a:=gf (fi:=bK (am 3)) (nT:=1) (cap:=[5]) (tg:=dF 0) (c:=aV (f2 dw (cx 0 1) (am 1))) (fe:=am 0) (ρ:=[sL (cs.map bM),some (rt,false),sI day,lT ((b::r).map bM),lT ((m8 (b::r)).map .str),sS ch.p,none]) (b::r) bM (λc=>decide (c.p=ch.p)) bM (by simp) (by omega) λc hc=>⟨_,rfl,dQ (bR (.str c.p) (.str ch.p) (bR (bM c) (.int 1) (by simp[eP]) rfl (Rb c)) (by simp[eP]) (by simp)),λ_=>⟨false,by simp[eP]⟩⟩;obtain⟨b2,O,hf⟩:∃b2 O,(b::r).filter (λc=>decide (c.p=ch.p))=b2::O:=by
    cases hq:(b::r).filter (λc=>decide (c.p=ch.p)) with
    |nil=>
     have:=List.filter_eq_nil_iff.mp hq _ U;simp[ch]at this
    |cons b2 O=>exact⟨b2,O,rfl⟩
   rw[hf]at a |-;refine aD M (kO (.str ch.p) (aL [.lst ((b::r).map bM),.str rl] (ce (by simp) (aQ (G _ rfl) rfl)) (Hh rl b r)) rfl (kO (bM (nQ b2 O)) (Hg (bb:=true) a) (zH _) (ay (aL [.str "one",.str ch.p,.int (nQ b2 O).n] (ce rfl (ce rfl (aQ (bR (bM (nQ b2 O)) (.int 4) rfl rfl (Sk _)) rfl))) (cG _ (by simp))))))
def Ly:D->D
 |.tup ds=>.tup (iQ ds none (some 2))
 |d=>d
def kh (cs:List Cl)(o rl p:Str)(day:Int):Bool:=cV (Ly (kg cs o rl day)) (.tup [.str "one",.str p])
def Bu (n:Nat)(zs:LS):(zs.map D.str).all (aH n)=true:=by
 induction zs with
 |nil=>rfl
 |cons a l G=>simp
def Ev (rl:Str)(G:List Cl):∃ds,pN rl G=.tup ds/\ds.all (aH 5)=true:=by
 cases G with
 |nil=>exact⟨_,rfl,by simp⟩
 |cons b r=>
  rw[pN];split
  ·exact⟨_,rfl,by simp only[all_cons,all_nil,aH,Bool.and_true,Bool.true_and];exact Bu _ _⟩
  ·exact⟨_,rfl,by simp⟩
def Hi (h:ds.all (aH 5)=true):(iQ ds lo hi).all (aH 5)=true:=by
 rw[all_eq_true]at h |-;exact λd hd=>h d (List.mem_of_mem_drop (List.mem_of_mem_take hd))
def we (h:ds.all (aH 5)=true):aH 40 (.tup ds)=true:=iJ 6 40 _ (by decide) (by simpa only[aH]using h)
def CY (cs:List Cl)(hl:cs.length<=60)(p:Str)(day:Int):dD [.lst (cs.map bM),row h ("root" : Str) [.str o,.int m,.int f,.str rl],.str p,.int day]=sO (kh cs o rl p day):=by
 have hb:=nR cs hl (h:=h) (o:=o) (rl:=rl) (m:=m) (f:=f) day;obtain⟨ds,e,hd⟩:=Ev rl (Oo cs o day);have G:kg cs o rl day=.tup ds:=e;refine aw rfl (ay (bR (Ly (kg cs o rl day)) (.tup [.str "one",.str p]) ?_ (by simp[sizeLine]) ?_))
 ·have hc:=bA (F:=eE) (fa:=fV 0 (fV 1 (fV 3 aj))) (ρ:=[sL (cs.map bM),some (row h ("root" : Str) [.str o,.int m,.int f,.str rl],false),sS p,sI day]) (ds:=[.lst (cs.map bM),row h ("root" : Str) [.str o,.int m,.int f,.str rl],.int day]) rfl hb;rw[G]at hc |-;show qh (fA eE (fV 0 (fV 1 (fV 3 aj)))) eZ (cY (fI 2)) _=_;unfold qh;rw[show(List.map (λd=>some (d,false)) [D.lst (cs.map bM),row h ("root" : Str) [.str o,.int m,.int f,.str rl],.str p,.int day]++List.replicate 0 none:DL.Env)=[sL (cs.map bM),some (row h ("root" : Str) [.str o,.int m,.int f,.str rl],false),sS p,sI day]from rfl,hc];rfl
 ·unfold kh dw;rw[if_pos];rw[G];exact⟨we (Hi hd),we (by simp)⟩
noncomputable def aX (j:Nat):D->Str
 |.tup [_,.tup (_::ax)]=>match ax[j]? with
  |some (.str s)=>s
  |_=>("" : Str)
 |_=>("" : Str)
noncomputable def jB (j:Nat):D->Int
 |.tup [_,.tup (_::ax)]=>match ax[j]? with
  |some (.int s)=>s
  |_=>0
 |_=>0
def Cd.root_of (h:Cd ("root" : Str) r):∃o rl,∃m f:Int,r=[.str o,.int m,.int f,.str rl]:=by
 generalize hk:("root" : Str)=k at h;cases h with
 |root o rl m f=>exact⟨o,rl,m,f,rfl⟩
 |named=>exact jo hk
 |three _ hh=>rcases hh with rfl|rfl|rfl<;>exact jo hk
 |other _ hh=>rcases hh with rfl|rfl|rfl|rfl|rfl<;>exact jo hk
def Ew {κ α:Type}[DecidableEq κ]{ks:List κ}{k:κ}{x y:α}:∀ {xs:List α},y∈fm ks xs k x->y=x\/y∈xs:=by
 intro xs h;unfold fm at h;split at h
 ·rename_i G;clear G;induction ks generalizing xs with
  |nil=>simp at h
  |cons a ks M=>
   cases xs with
   |nil=>simp at h
   |cons b xs=>
    rw[zipWith_cons_cons,mem_cons]at h;rcases h with h|h
    ·split at h
     ·exact .inl h
     ·exact .inr (by rw[h];exact mX)
    ·rcases M h with h|h
     ·exact .inl h
     ·exact .inr (mZ _ h)
 ·rcases mem_append.mp h with h|h
  ·exact .inr h
  ·exact .inl (uT h)
theorem wg:∀(l:List (eK×D))(a:LK×LD)(y:D),y∈(l.foldl rq a).2->y∈a.2\/∃p∈l,p.2=y
 |[],a,y,h=>.inl h
 |p::l,a,y,h=>by
  rw[foldl_cons]at h;rcases wg l _ y h with h|⟨q,hq,e⟩
  ·rcases Ew (show y∈fm a.1 a.2 p.1 p.2 from h)with h|h
   ·exact .inr ⟨p,mX,h.symm⟩
   ·exact .inl h
  ·exact .inr ⟨q,mZ _ hq,e⟩
theorem wj {α:Type}(f:α->Str)(g:α->D):∀(l:List α),jj (l.map λx=>D.tup [.str (f x),g x])=some (l.map λx=>(.inr (f x),g x))
 |[]=>rfl
 |x::l=>by
  rw[uY,jj,wj f g l];rfl
theorem zL {κ:Type}[DecidableEq κ]:∀ {ks:List κ}{vs:LD}{k:κ}{v:D},gH ks vs k=some v->v∈vs
 |k'::ks,d::ds,k,v,h=>by
  unfold gH at h;split at h
  ·cases h;exact mX
  ·exact mZ _ (zL h)
 |[],_,_,_,h=>by simp[gH]at h
 |_::_,[],_,_,h=>by simp[gH]at h
noncomputable def nU (KL:List (D×Nat)):List (eK×D):=(KL.filter λx=>bj x.1).map λx=>(.inr (aX 0 x.1),x.1)
def zM (KL:List (D×Nat))(o:Str):Option D:=gH (ci (nU KL)).1 (ci (nU KL)).2 (.inr o)
def sQ (g:xJ r)(h:bj r=true):∃a o rl,∃m f:Int,r=row a ("root" : Str) [.str o,.int m,.int f,.str rl]:=by
 obtain⟨a,k,ax,rfl,d⟩:=g;have hk:k = "root":=Qs h;subst hk;obtain⟨o,rl,m,f,rfl⟩:=d.root_of;exact⟨a,o,rl,m,f,rfl⟩
def ij (g:jb af)(hx:x∈au af ae):mH af (x.2:Int)=some x.1/\xJ x.1:=⟨bG (bc hx),g.2 _ (vL (bc hx))⟩
def zN (g:jb af)(h:zM (au af ae) o=some v):∃a G rl,∃m f:Int,v=row a ("root" : Str) [.str G,.int m,.int f,.str rl]:=by
 have hv:=zL h;rcases wg _ ([],[]) v hv with h|⟨p,hp,e⟩
 ·cases h
 ·obtain⟨x,hx,rfl⟩:=vO hp;obtain⟨h1,h2⟩:=vN hx;rw[<-e];exact sQ (ij g h1).2 h2
def sR (g:jb af)(ae:Int):gD [.tup af,.int ae]=sF (.dk (ci (nU (au af ae))).1 (ci (nU (au af ae))).2):=by
 have hl:=cF af ae;have M:=g.1;have h1:=vk (fi:=bK (fA cH (fV 0 (fV 1 aj)))) (nT:=1) (cap:=[0]) (tg:=dF 0) (fe:=f2 bF (am 1) (am 0)) (ρ:=[sT af,sI ae,none]) (au af ae) (λx=>.int x.2) Prod.fst
  (by
   show(fA cH (fV 0 (fV 1 aj)) _).bind _=_;rw[aL [.tup af,.int ae] rfl (lf af g.rp g.le ae)];rfl) (by omega) λx hx=>by
   have ha:=(ij g hx).1;exact⟨_,rfl,false,by simp[eP,ha]⟩
 have hn:bB ((au af ae).map Prod.fst)=true:=c7 λd hd=>by
  obtain⟨x,hx,rfl⟩:=vO hd;exact(ij g hx).2.rp.flat
 have h2:=gf (fi:=bK (am 2)) (nT:=1) (cap:=[]) (tg:=dF 0) (c:=aV (f2 dw (fA a9 (fV 0 aj)) (fS "root"))) (fe:=fA bo (ag (fA av (fV 0 (ag (fS "office") aj))) (fV 0 aj)))
  (ρ:=[sT af,sI ae,lT ((au af ae).map Prod.fst)]) (au af ae) Prod.fst (λx=>bj x.1) (λx=>.tup [.str (aX 0 x.1),x.1]) (by simp) (by omega) λx hx=>by
   have G:=(ij g hx).2;refine⟨_,rfl,cE (a:=kindOf x.1) (bb:=false) (aL [x.1] rfl (iK G)) rfl,λhp=>⟨false,?_⟩⟩;obtain⟨a,o,rl,m,f,e⟩:=sQ G hp;refine aL [.str (aX 0 x.1),x.1] (ce (aL [x.1,.str "office"] rfl ?_) rfl) (cG _ (by simp));rw[e];exact ln
 refine aw rfl (dq (ds:=(au af ae).map Prod.fst) h1 hn (ay (aL [.lst (((au af ae).filter λx:D×Nat=>bj x.1).map λx:D×Nat=>D.tup [.str (aX 0 x.1),x.1])] (aQ h2 rfl) ?_)));rw[jM,wj (λx:D×Nat=>aX 0 x.1) Prod.fst];rfl
abbrev KL:=List (D×Nat)
noncomputable def Ex:LS:=[("named" : Str),"chosen","heir"]
def hW (K:KL)(x:D×Nat):Bool:=if kindOf x.1 = "named" then (zM K (aX 1 x.1)).isSome else false
def Ey (g:jb af)(ae:Int)(so:List Cl)(hx:x∈au af ae)(M:bj x.1=false):nH [.tup af,.int ae,.lst (so.map bM),.int x.2]=sO (hW (au af ae) x):=by
 obtain⟨ha,O⟩:=ij g hx;have hf:b8 x.1=true:=O.rp.flat;have hw:∀ρ:DL.Env,ρ[4]? = some (some (x.1,false))->fA a9 (fV 4 aj) ρ=sS (kindOf x.1):=λρ h4=>aL [x.1] (by simp[h4]) (iK O);have G:∀ρ:DL.Env,ρ[4]? = some (some (x.1,false))->aV (f2 da (fA a9 (fV 4 aj)) (fA bo (ag (fS "named") (ag (fS "chosen") (ag (fS "heir") aj))))) ρ=some (!decide (kindOf x.1∈Ex)):=λρ h4=>
  dQ (bR (.str (kindOf x.1)) (.tup (Ex.map .str)) (hw ρ h4) (by simp[sizeLine,Ex]) (lg _ _))
 have hd:¬kindOf x.1 = "death":=by
  obtain⟨a,k,ax,e,d⟩:=O;rw[e];show ¬k = "death";cases d with
  |named=>decide +kernel
  |root=>decide +kernel
  |three _ hk=>rcases hk with rfl|rfl<;>decide +kernel
  |other _ hk=>rcases hk with rfl|rfl|rfl|rfl|rfl<;>decide +kernel
 by_cases hn:kindOf x.1 = "named"
 ·have h3:kindOf x.1∈Ex:=by rw[hn];decide +kernel
  have T:av [x.1,.str "office"]=sS (aX 1 x.1):=by
   obtain⟨a,k,ax,e,d⟩:=O;rw[e]at hn |-;replace hn:k = "named":=hn;cases d with
   |named d o p=>exact bC (i:=1) cM rfl
   |root=>exact jo hn
   |three _ hk=>rcases hk with rfl|rfl<;>exact jo hn
   |other _ hk=>rcases hk with rfl|rfl|rfl|rfl|rfl<;>exact jo hn
  have U:∀ρ:DL.Env,ρ[0]? = some (sT af)->ρ[1]? = some (sI ae)->ρ[4]? = some (some (x.1,false))->f2 G1 (fA gD (fV 0 (fV 1 aj))) (fA av (fV 4 (ag (fS "office") aj))) ρ=some ((zM (au af ae) (aX 1 x.1)).getD .non,false):=λρ f h j=>
   bR (.dk (ci (nU (au af ae))).1 (ci (nU (au af ae))).2) (.str (aX 1 x.1)) (aL [.tup af,.int ae] (by simp[f,h]) (sR g ae)) (aL [x.1,.str "office"] (by simp[j]) T) rfl
  have hc:hW (au af ae) x=(zM (au af ae) (aX 1 x.1)).isSome:=by unfold hW;rw[if_pos hn]
  rw[hc];cases b:zM (au af ae) (aX 1 x.1) with
  |none=>
   rw[b]at U;exact aw rfl (kO x.1 (by simp[ha]) hf (aD (cE (bb:=false) (hw _ rfl) (Qn hd)) (aD (by rw[G _ rfl,As h3];rfl) (kO .non (U _ rfl rfl rfl) rfl (bw (dQ (bR .non .non rfl rfl (by simp))) (ay rfl))))))
  |some v=>
   rw[b]at U;obtain⟨n,q,r,s,t,c⟩:=zN g b;have l:b8 v=true:=by rw[c];rfl
   have m:y7 v .non=sO false:=by rw[c];simp[row]
   exact aw rfl (kO x.1 (by simp[ha]) hf (aD (cE (bb:=false) (hw _ rfl) (Qn hd)) (aD (by rw[G _ rfl,As h3];rfl) (kO v (U _ rfl rfl rfl) l (aD (dQ (bR v .non rfl rfl m)) (bw (cE (bb:=false) (hw _ rfl) (As hn)) (ay rfl)))))))
 ·have hc:hW (au af ae) x=false:=by unfold hW;rw[if_neg hn]
  have h3:kindOf x.1∉Ex:=by
   obtain⟨a,k,ax,e,d⟩:=O;rw[e]at hn M |-;show k∉Ex;cases d with
   |named d o p=>exact absurd rfl hn
   |root=>cases M
   |three _ hk=>rcases hk with rfl|rfl<;>decide +kernel
   |other _ hk=>rcases hk with rfl|rfl|rfl|rfl|rfl<;>decide +kernel
  rw[hc];exact aw rfl (kO x.1 (by simp[ha]) hf (aD (cE (bb:=false) (hw _ rfl) (Qn hd)) (bw (by rw[G _ rfl,Qn h3];rfl) (ay rfl))))
def PM (G:av [r,.str "office"]=sS o)(hp:av [r,.str "person"]=sS p)(s:Int)(n:Nat):iX [r,.int s,.int n]=some (bM ⟨o,p,s,none,n⟩,false) :=
 aw rfl (ay (aL [.str o,.str p,.int s,.non,.int n] (aQ (aL [r,.str "office"] rfl G) (aQ (aL [r,.str "person"] rfl hp) rfl)) (cG _ (by simp))))
def pO (K:KL)(so:List Cl)(x:D×Nat):List Cl:=if hW K x=true then so++[⟨aX 1 x.1,aX 2 x.1,aS x.1,none,x.2⟩]else so
def bV (K:KL):KL:=dO (λx=>c8 (kA x)) (K.filter λx=>!bj x.1)
noncomputable def pP (K:KL)(l:KL):List Cl:=l.foldl (pO K) []
noncomputable def kC (c:Cl):List At:=[.s c.o,.i c.s,.i c.n]
def bx (K:KL):List Cl:=dO (λc=>c8 (kC c)) (pP K (bV K))
structure EJ (l:KL)(so:List Cl):Prop where
 len:so.length<=l.length
 nod:(so.map λc=>(c.o,c.n)).Nodup
 num:∀c∈so,c.n∈l.map (·.2)
def EJ.step {K l:KL}{so:List Cl}(h:EJ l so){x:D×Nat}(hx:x.2∉l.map (·.2)):EJ (l++[x]) (pO K so x):=by
 have G:∀ {n:Nat},n∈l.map (·.2)->n∈(l++[x]).map (·.2):=λh=>by rw[uW];exact mem_append_left _ h
 have O:x.2∈(l++[x]).map (·.2):=by simp
 have T:(l++[x]).length=l.length+1:=by simp
 have M:=h.len;unfold pO;split
 ·refine⟨by simp;omega,?_,λc hc=>?_⟩
  ·rw[uW,nodup_append];refine⟨h.nod,by simp,λa ha b hb e=>?_⟩;obtain⟨c,hc,rfl⟩:=vO ha;simp at hb;subst hb;injection e with _ e2;exact hx (e2 ▸ h.num c hc)
  ·rcases mem_append.mp hc with hc|hc
   ·exact G (h.num c hc)
   ·rw[uT hc];exact O
 ·exact⟨by omega,h.nod,λc hc=>G (h.num c hc)⟩
def Sl (a b:Cl):(bu (kC a) (kC b)).isSome=true:=by
 unfold kC;rw[bu];split
 ·rw[bu];split
  ·rw[bu];split
   ·rw[bu];rfl
   ·rfl
  ·rfl
 ·rfl
def CZ (cs:List Cl):dn (cs.map kC)=true:=by
 unfold dn;simp[all_eq_true,Sl]
theorem wk {α O:Type}(f:α->O):∀ {l:List α},(l.map f).Nodup->∀ {a b:α},a∈l->b∈l->f a=f b->a=b
 |[],_,_,_,ha,_,_=>by cases ha
 |c::l,h,a,b,ha,hb,e=>by
  rw[uY,nodup_cons]at h;rcases vP ha with M|ha1
  ·rcases vP hb with G|hb1
   ·rw[M,G]
   ·exact absurd (uS ⟨b,hb1,by rw[<-e,M]⟩) h.1
  ·rcases vP hb with G|hb1
   ·exact absurd (uS ⟨a,ha1,by rw[e,G]⟩) h.1
   ·exact wk f h.2 ha1 hb1 e
def Hj {cs:List Cl}{a b:Cl}(ha:a∈cs)(hb:b∈cs)(e:c8 (kC a)=c8 (kC b)):(a.o,a.n)=(b.o,b.n):=by
 have h:=l8 (CZ cs) (uS ⟨a,ha,rfl⟩) (uS ⟨b,hb,rfl⟩) e;unfold kC at h;injection h with h1 h2;injection h1 with h1;injection h2 with _ h3;injection h3 with h3 _;injection h3 with h3;rw[h1,show a.n=b.n by omega]
def JZ (g:jb af)(ae:Int)(so:List Cl)(j:so.length<=60)(hx:x∈au af ae)(M:bj x.1=false)(c:OB):
  ∃f,(lD [sT af,sI ae,lT (so.map bM),some (.dt [] [],true),sI x.2,c]=some (.nx [sT af,sI ae,lT ((pO (au af ae) so x).map bM),some (.dt [] [],true),sI x.2,f])
   \/ lD [sT af,sI ae,lT (so.map bM),some (.dt [] [],true),sI x.2,c]=some (.ct [sT af,sI ae,lT ((pO (au af ae) so x).map bM),some (.dt [] [],true),sI x.2,f])):=by
 obtain⟨ha,U⟩:=ij g hx;have hf:b8 x.1=true:=U.rp.flat;have h:=Ey g ae so hx M;obtain⟨E,b⟩:∃E:DL.Env,E=[sT af,sI ae,lT (so.map bM),some (.dt [] [],true),sI x.2,some (x.1,false)]:=⟨_,rfl⟩;have G:cm (aV (fA nH (fV 0 (fV 1 (fV 2 (fV 4 aj)))))) E=some (!hW (au af ae) x):=by
  rw[b];exact bX (dQ (aL [.tup af,.int ae,.lst (so.map bM),.int x.2] (by simp) h))
 have hw:fA a9 (fV 5 aj) E=sS (kindOf x.1):=by rw[b];exact aL [x.1] rfl (iK U)
 refine⟨some (x.1,false),?_⟩;unfold pO;subst b;cases hc:hW (au af ae) x with
 |false=>
  rw[hc]at G;exact .inr (kO x.1 (by simp[ha]) hf (Sh (Es G rfl)))
 |true=>
  rw[hc]at G;left;rw[if_pos rfl];refine kO x.1 (by simp[ha]) hf (ft (Bk G rfl) ?_);have hn:kindOf x.1 = "named":=by
   unfold hW at hc;by_cases hn:kindOf x.1 = "named"
   ·exact hn
   ·rw[if_neg hn]at hc;cases hc
  refine Es (cE (bb:=false) hw (As hn)) ?_;have O:av [x.1,.str "office"]=sS (aX 1 x.1)/\av [x.1,.str "person"]=sS (aX 2 x.1):=by
   obtain⟨a,k,ax,e,d⟩:=U;rw[e]at hn |-;replace hn:k = "named":=hn;cases d with
   |named d o p=>exact⟨bC (i:=1) cM rfl,bC (i:=2) cM rfl⟩
   |root=>exact jo hn
   |three _ hk=>rcases hk with rfl|rfl<;>exact jo hn
   |other _ hk=>rcases hk with rfl|rfl|rfl|rfl|rfl<;>exact jo hn
  have T:bi [x.1]=sI (aS x.1):=by rw[wc U];unfold xK;rw[M];rfl
  have e2:f2 eQ (am 2) (fA cw (ag (fA iX (fV 5 (ag (fA bi (fV 5 aj)) (fV 4 aj)))) aj)) [sT af,sI ae,lT (so.map bM),some (.dt [] [],true),sI x.2,some (x.1,false)]=lT (so.map bM++[bM ⟨aX 1 x.1,aX 2 x.1,aS x.1,none,x.2⟩]):=by
   refine c9 (x:=.lst (so.map bM)) (y:=.lst [bM ⟨aX 1 x.1,aX 2 x.1,aS x.1,none,x.2⟩]) (b1:=false) (b2:=true) rfl ?_ (if_pos (fu (by rw[vI,length_singleton];omega)));exact aL [bM ⟨aX 1 x.1,aX 2 x.1,aS x.1,none,x.2⟩] (aQ (aL [x.1,.int (aS x.1),.int x.2] (ce rfl (ce (aL [x.1] rfl T) rfl)) (PM O.1 O.2 _ _)) rfl) (fK _ (by simp))
  have:=CD (i:=2) e2 (by have hq:=zI (so++[(⟨aX 1 x.1,aX 2 x.1,aS x.1,none,x.2⟩:Cl)]);rwa [uW]at hq);rw[uW];exact this
theorem Db (K:KL):∀(l G:KL)(so:List Cl),EJ G so->((G++l).map (·.2)).Nodup->EJ (G++l) (l.foldl (pO K) so)
 |[],G,so,h,_=>by rw[uQ];exact h
 |x::l,G,so,h,hn=>by
  have hx:x.2∉G.map (·.2):=λhm=>by
   rw[uW,nodup_append]at hn;exact hn.2.2 _ hm x.2 (by simp) rfl
  have h':=h.step (K:=K) hx;have e:G++x::l=(G++[x])++l:=by simp
  rw[e]at hn |-;exact Db K l _ _ h' hn
def Dc (K l:KL)(h:(l.map (·.2)).Nodup):EJ l (pP K l):=Db K l [] [] ⟨uN _,by simp,by simp⟩ h
def oM (h:(K.map (·.2)).Nodup):((bV K).map (·.2)).Nodup:=((aZ _ _).map _).nodup_iff.mpr (List.Nodup.sublist (List.Sublist.map _ filter_sublist) h)
def wl {af:LD}(g:jb af)(ae:Int)(T:(bV (au af ae)).length<=60):nI [.tup af,.int ae]=lT ((bx (au af ae)).map bM)/\(bx (au af ae)).length<=60:=by
 have m:cR [.tup af,.int ae]=lT ((bV (au af ae)).map λx=>.int x.2):=lm g ae;generalize i:au af ae=K at T m |-;have U:∀x∈bV K,x∈K/\bj x.1=false:=λx hx=>by
  obtain⟨h1,h2⟩:=vN ((aZ _ _).mem_iff.mp hx);exact⟨h1,by simpa using h2⟩
 have q:((bV K).map (·.2)).Nodup:=oM (by rw[<-i];exact fX af ae);obtain⟨ρ',e,k,f,rfl⟩:=gI (tg:=dF 4) (g:=lD) (λj ρ=>∃k f:OB,ρ=[sT af,sI ae,lT ((pP K ((bV K).take j)).map bM),some (.dt [] [],true),k,f]) ((bV K).map λx=>.int x.2)
  [sT af,sI ae,lT [],some (.dt [] [],true),none,none] ⟨none,none,rfl⟩ (by
   rintro j d ρ hd ⟨k,f,rfl⟩;rw[vA]at hd;obtain⟨x,hx,rfl⟩:=oY hd;have F:j<(bV K).length:=(vV hx).1;have t:(bV K).take (j+1)=(bV K).take j++[x]:=by rw[take_add_one,hx];rfl
   have u:pP K ((bV K).take (j+1))=pO K (pP K ((bV K).take j)) x:=by rw[t];unfold pP;rw[foldl_append];rfl
   obtain⟨v,w⟩:=U x (vL hx);have h:=(Dc K ((bV K).take j) (List.Nodup.sublist (List.Sublist.map _ (take_sublist _ _)) q)).len;rw[length_take]at h;have G:=JZ g ae (pP K ((bV K).take j)) (by omega) (x:=x) (by rw[i];exact v) w f;rw[i]at G;obtain⟨z,G⟩:=G;exact⟨_,_,rfl,G,sI x.2,z,by rw[u]⟩)
 have A:(bV K).take ((bV K).map λx=>D.int x.2).length=bV K:=by rw[vI,take_length]
 rw[A]at e;have M:=Dc K (bV K) q;generalize B:(pP K (bV K))=st at e M;have C:st.length<=60:=by have:=M.len;omega
 have r:bx K=dO (λc=>c8 (kC c)) st:=by unfold bx;rw[B]
 have hm:∀ρ:DL.Env,jL (tW gL ρ) (st.map bM)=some (st.map λc=>.tup [.str c.o,.int c.s,.int c.n]):=λρ=>j9 st λc _=>by
  show(gL [bM c]).map _=_;rw[xN];rfl
 have hk:dH (st.map λc=>D.tup [.str c.o,.int c.s,.int c.n])=some (st.map kC):=jA st λc _=>rfl;have O:(st.map kC).length<64/\dn (st.map kC)=true/\dG (st.map kC)=true/\((st.map kC).map c8).Nodup:=by
  refine⟨by rw[vI];omega,CZ _,?_,?_⟩
  ·unfold dG;rw[or_eq_true];right;simp[all_eq_true,kC]
  ·rw[uP];have h1:st.Pairwise λa b=>(a.o,a.n)≠(b.o,b.n):=pairwise_map.mp M.nod;have h2:st.Pairwise λa b=>c8 (kC a)≠c8 (kC b):=by
    refine List.Pairwise.imp_of_mem ?_ h1;intro a b ha hb E e;exact E (Hj ha hb e)
   exact pairwise_map.mpr h2
 have hz:(st.map kC).zip (st.map bM)=st.map λc=>(kC c,bM c):=by rw[zip_map']
 have l:((bx K).map λc=>(kC c,bM c))=dO (λp:List At×D=>c8 p.1) (st.map λc=>(kC c,bM c)):=by
  rw[r];refine jx _ (λx hx y hy e=>?_) ((aZ _ _).map _) ?_
  ·obtain⟨a,ha,rfl⟩:=vO hx;obtain⟨b,hb,rfl⟩:=vO hy;rw[wk (λc:Cl=>(c.o,c.n)) M.nod ha hb (Hj ha hb e)]
  ·exact pairwise_map.mpr (ee _ _)
 refine⟨aw rfl (dq (ds:=[]) (by simp[sizeLine]) rfl (ft (ρ':=[sT af,sI ae,lT [],some (.dt [] [],true),none,none]) rfl (ft (hU (ds:=(bV K).map λx=>.int x.2) ?_ e) (ay ?_)))),by rw[r,(aZ _ _).length_eq];exact C⟩
 ·show(fA cR (fV 0 (fV 1 aj)) _).bind _=_;rw[aL [.tup af,.int ae] rfl m];rfl
 ·unfold rj;show((some (D.lst (st.map bM),false)).bind _)=_;simp only[vJ];rw[hm];simp only[vJ];rw[hk];simp only[vJ];rw[if_pos O];unfold j4;rw[hz,<-l,uP];rfl
end Lw
namespace Lw
open PySem PySem.Spec DL L2
def jS (x:Int×OI):D:=.tup [.int x.1,uD x.2]
def lq (x:Int×OI):b8 (jS x)=true:=by simp[jS,CV]
def wm (x:Int×OI):aH 5 (jS x)=true:=by obtain⟨s,u⟩:=x;cases u<;>simp[jS,uD]
def Bv {zs:LS}{i:Int}(h1 : -(zs.length:Int)<=i)(h2:i<zs.length):∃z∈zs,bF (.lst (zs.map .str)) (.int i)=sS z:=by
 obtain⟨j,hj,hl⟩:∃j,Fi (zs.map D.str).length i=some j/\j<zs.length:=by
  unfold Fi;rw[vI];by_cases h0:0<=i
  ·rw[if_pos h0,if_pos h2];exact⟨_,rfl,by omega⟩
  ·rw[if_neg h0,if_pos (by omega)];exact⟨_,rfl,by omega⟩
 refine⟨zs[j],getElem_mem hl,?_⟩;have:mH (zs.map D.str) i=some (.str zs[j]):=by unfold mH;rw[hj,vJ,vA,vU hl];rfl
 simp[this]
noncomputable def MR:LN:=[7,255,3,15]
noncomputable def MS:LN:=[1,2,3,4,5,7,128,255]
inductive Dd:Str->List D->Prop
 |root (o r:Str) (m:Nat) (hm:m∈MR) (f:Int):Dd ("root" : Str) [.str o,.int m,.int f,.str r]
 |named (d:Int) (o p:Str):Dd ("named" : Str) [.int d,.str o,.str p]
 |three (k:Str) (hk:k = "lost" \/ k = "found") (d:Int) (p:Str):Dd k [.int d,.str p]
 |leave (d:Int) (b p:Str) (m:Nat) (hm:m∈MS) (x:Int×Option Int) (f:Int):Dd ("leave" : Str) [.int d,.str b,.str p,.int m,jS x,.int f]
 |paper (k:Str) (hk:k = "paper" \/ k = "like") (d:Int) (b:Str) (m:Nat) (hm:m∈MS) (x:Int×Option Int) (r:List D) (hf:bB r=true) (hp:r.all (aH 5)=true):Dd k (.int d::.str b::.int m::jS x::r)
 |copy (k:Str) (hk:k = "copy" \/ k = "call") (d:Int) (b:Str) (n:Nat):Dd k [.int d,.str b,.int n]
def Dd.cd (h:Dd k r):Cd k r:=by
 cases h with
 |root o r m hm f=>exact .root _ _ _ _
 |named d o p=>exact .named _ _ _
 |three k hk d p=>exact .three _ hk _ _
 |leave d b p m hm x f=>exact .other _ (.inl rfl) _ _ _ (by simp[lq]) (by simp only[all_cons,all_nil,wm,aH,Bool.and_true])
 |paper k hk d b m hm x r hf hp=>exact .other _ (hk.elim (λh=>.inr (.inl h)) λh=>.inr (.inr (.inl h))) _ _ _ (by simp[hf,lq]) (by simp only[all_cons,hp,wm,aH,Bool.and_true])
 |copy k hk d b n=>exact .other _ (hk.elim (λh=>.inr (.inr (.inr (.inl h)))) λh=>.inr (.inr (.inr (.inr h)))) _ _ _ rfl (by simp)
def cq (r:D):Prop:=∃h k ax,r=row h k ax/\Dd k ax
def cq.c (g:cq r):xJ r:=by obtain⟨h,k,ax,e,d⟩:=g;exact⟨h,k,ax,e,d.cd⟩
def cq.flat (g:cq r):b8 r=true:=g.c.rp.flat
noncomputable def wn (af:LD):LS:=(af.filter bj).map (aX 0)
def Ez (af:LD)(r:D):wn (af++[r])=wn af++if bj r=true then [aX 0 r]else []:=by
 unfold wn;rw[List.filter_append,uW,filter_cons];split
 ·rename_i h;rfl
 ·rename_i h;rfl
def wo (a b:Nat):iG [.int a,.int b]=sO (decide (a &&& b=b)):=by
 have:Builtin.bitAnd (a:Int) (b:Int)=((a &&& b:Nat):Int):=by simp[Builtin.bitAnd]
 simp[iG,sf,this];omega
def iS (r:D):Nat:=(if kindOf r = "root" then jB 1 r else if kindOf r = "leave" then jB 3 r else jB 2 r).toNat
def fw (a:Int)(k:Str)(ax:LD):kindOf (row a k ax)=k:=rfl
noncomputable def fx:LS:=[("leave" : Str),"paper","like"]
def sU (g:cq r)(h:bj r=true):∃a o rl,∃m:Nat,∃f:Int,r=row a ("root" : Str) [.str o,.int m,.int f,.str rl]/\m∈MR/\iS r=m:=by
 obtain⟨a,k,ax,rfl,d⟩:=g;have hk:k = "root":=Qs h;clear h;cases d with
 |root o rl m hm f=>exact⟨a,o,rl,m,f,rfl,hm,by unfold iS;rw[fw,if_pos rfl];rfl⟩
 |named=>exact jo hk
 |three k G=>rcases G with rfl|rfl<;>exact jo hk
 |leave=>exact jo hk
 |paper k G=>rcases G with rfl|rfl<;>exact jo hk
 |copy k G=>rcases G with rfl|rfl<;>exact jo hk
def De (g:cq r)(h:bj r=true):av [r,.str "matters"]=sI (iS r):=by
 obtain⟨a,o,rl,m,f,rfl,_,e⟩:=sU g h;rw[e];exact bC (i:=1) cM rfl
def Nl {a:Int}{k:Str}{ax:LD}(d:Dd k ax)(h:k∈fx):iS (row a k ax)∈MS/\(∃i:Nat,mq bL (.str k) (.str "matters")=sI i/\ax[i]? = some (.int (iS (row a k ax))))/\(D.str k::ax).getD (3+if k = "leave" then 1 else 0) .non=.int (iS (row a k ax))/\(3+if k = "leave" then 1 else 0)<(D.str k::ax).length:=by
 cases d with
 |leave d b p m hm x f=>
  have e:iS (row a ("leave" : Str) [.int d,.str b,.str p,.int m,jS x,.int f])=m:=by unfold iS;rw[fw,if_neg (by decide +kernel),if_pos rfl];rfl
  rw[e];refine⟨hm,⟨3,cM,rfl⟩,?_,?_⟩
  ·rw[if_pos rfl];rfl
  ·rw[if_pos rfl];simp
 |paper k hk d b m hm x r hf hp=>
  have hl:k ≠ "leave":=by rcases hk with rfl|rfl<;>decide +kernel
  have M:k ≠ "root":=by rcases hk with rfl|rfl<;>decide +kernel
  have e:iS (row a k (.int d::.str b::.int m::jS x::r))=m:=by unfold iS;rw[fw,if_neg M,if_neg hl];rfl
  rw[e];refine⟨hm,⟨2,by rcases hk with rfl|rfl<;>exact cM,rfl⟩,?_,?_⟩
  ·rw[if_neg hl];rfl
  ·rw[if_neg hl];simp
 |root=>exact jo h
 |named=>exact jo h
 |three k G=>rcases G with rfl|rfl<;>exact jo h
 |copy k G=>rcases G with rfl|rfl<;>exact jo h
def xO (g:cq r)(h:kindOf r∈fx):av [r,.str "matters"]=sI (iS r):=by
 obtain⟨a,k,ax,rfl,d⟩:=g;obtain⟨_,⟨i,h1,h2⟩,_⟩:=Nl (a:=a) d h;exact bC h1 h2
noncomputable def bQ:LS:=[("leave" : Str),"paper","like","copy"]
def jT (h:k∈bQ\/k = "call"):eU k=true:=by
 rw[sD];refine As ?_;rcases h with h|rfl
 ·have:∀k∈bQ,k∈zG:=by decide +kernel
  exact this k h
 ·decide +kernel
def Ka {k:Str}{ax:LD}(d:Dd k ax)(h:eU k=true):∃(dd:Int)(b:Str)(r:LD),ax=.int dd::.str b::r:=d.cd.deed.slg h
def Df (g:cq r)(h:eU (kindOf r)=true):av [r,.str "by"]=sS (dm r):=by
 obtain⟨a,k,ax,rfl,d⟩:=g;obtain⟨dd,b,q,rfl⟩:=Ka d h;exact bC (i:=1) (Hd h) rfl
noncomputable def bW (K:KL):LD:=(K.filter λx=>bj x.1).map (·.1)
theorem zO:∀(l:List (eK×D))(a:LK×LD),(a.1++l.map (·.1)).Nodup->l.foldl rq a=(a.1++l.map (·.1),a.2++l.map (·.2))
 |[],a,_=>by simp
 |p::l,a,h=>by
  have hn:p.1∉a.1:=by
   rw[uY,nodup_append]at h;exact λz=>h.2.2 _ z _ mX rfl
  have e:rq a p=(a.1++[p.1],a.2++[p.2]):=by unfold rq h8 fm;rw[if_neg hn,if_neg hn]
  rw[foldl_cons,e,zO l _ (by rw[append_assoc];exact h)];simp
section
variable {K:KL}(hn:((bW K).map (aX 0)).Nodup)
include hn
theorem sV:ci (nU K)=((bW K).map λv=>(.inr (aX 0 v):eK),bW K):=by
 have e:nU K=(bW K).map λv=>((.inr (aX 0 v):eK),v):=by unfold nU bW;rw[uP];rfl
 have G:((bW K).map λv=>(.inr (aX 0 v):eK)).Nodup:=by
  refine pairwise_map.mpr ((pairwise_map.mp hn).imp λh z=>h (Sum.inr.inj z))
 rw[e];unfold ci;rw[zO _ _ (by rw[uP];exact G),uP,uP];simp only[List.nil_append];congr 1;exact map_id _
end
noncomputable def Kb (j:Nat):D->Int×OI
 |.tup [_,.tup (_::ax)]=>match ax[j]? with
  |some (.tup [.int s,.int u])=>(s,some u)
  |some (.tup [.int s,.non])=>(s,none)
  |_=>(0,none)
 |_=>(0,none)
def qx {h:Int}{k:Str}{ax:LD}{j:Nat}{x:Int×OI}(e:ax[j]? = some (jS x)):Kb j (row h k ax)=x:=by
 unfold Kb row;simp only[e];obtain⟨s,u⟩:=x;cases u<;>rfl
def fY (r:D):Int×OI:=if kindOf r = "leave" then Kb 4 r else Kb 3 r
def iM (r:D):Int:=if kindOf r = "root" then jB 2 r else jB 5 r
def nV (r:D):Bool:=decide (kindOf r = "leave")
def pQ {r:D}(g:cq r)(h:kindOf r = "leave"):∃a d b p,∃m:Nat,∃x f,r=row a ("leave" : Str) [.int d,.str b,.str p,.int m,jS x,.int f]/\m∈MS/\iS r=m/\fY r=x/\iM r=f:=by
 obtain⟨a,k,ax,rfl,d⟩:=g;have hk:k = "leave":=h;clear h;cases d with
 |leave d b p m hm x f=>exact⟨a,d,b,p,m,x,f,rfl,hm,by unfold iS;rw[fw,if_neg (by decide +kernel),if_pos rfl];rfl,by unfold fY;rw[fw,if_pos rfl];exact qx rfl,by unfold iM;rw[fw,if_neg (by decide +kernel)];rfl⟩
 |root=>exact jo hk
 |named=>exact jo hk
 |three k G=>rcases G with rfl|rfl<;>exact jo hk
 |paper k G=>rcases G with rfl|rfl<;>exact jo hk
 |copy k G=>rcases G with rfl|rfl<;>exact jo hk
def Kc {a:Int}{k:Str}{ax:LD}(d:Dd k ax)(h:k∈fx):(∃i:Nat,mq bL (.str k) (.str "stretch")=sI i/\ax[i]? = some (jS (fY (row a k ax))))/\(D.str k::ax).getD (4+if k = "leave" then 1 else 0) .non=jS (fY (row a k ax))/\(4+if k = "leave" then 1 else 0)<(D.str k::ax).length:=by
 cases d with
 |leave d b p m hm x f=>
  have e:fY (row a ("leave" : Str) [.int d,.str b,.str p,.int m,jS x,.int f])=x:=by unfold fY;rw[fw,if_pos rfl];exact qx rfl
  rw[e,if_pos rfl];exact⟨⟨4,cM,rfl⟩,rfl,by simp⟩
 |paper k hk d b m hm x r hf hp=>
  have hl:k ≠ "leave":=by rcases hk with rfl|rfl<;>decide +kernel
  have e:fY (row a k (.int d::.str b::.int m::jS x::r))=x:=by unfold fY;rw[fw,if_neg hl];exact qx rfl
  rw[e,if_neg hl];exact⟨⟨3,by rcases hk with rfl|rfl<;>exact cM,rfl⟩,rfl,by simp⟩
 |root=>exact jo h
 |named=>exact jo h
 |three k G=>rcases G with rfl|rfl<;>exact jo h
 |copy k G=>rcases G with rfl|rfl<;>exact jo h
def Dg (g:cq r)(h:kindOf r∈fx):av [r,.str "stretch"]=some (jS (fY r),false):=by
 obtain⟨a,k,ax,rfl,d⟩:=g;obtain⟨⟨i,h1,h2⟩,_⟩:=Kc (a:=a) d h;exact bC h1 h2
def xP (h:kindOf r = "leave"):kindOf r∈fx:=by rw[h];decide +kernel
def Lz (g:cq r)(h:bj r=true\/kindOf r = "leave"):av [r,.str "further"]=sI (iM r):=by
 rcases h with h|h
 ·obtain⟨a,o,rl,m,f,rfl,_,_⟩:=sU g h;rw[show iM (row a ("root" : Str) [.str o,.int m,.int f,.str rl])=f by unfold iM;rw[fw,if_pos rfl];rfl];exact bC (i:=2) cM rfl
 ·obtain⟨a,d,b,p,m,x,f,e,_,_,_,G⟩:=pQ g h;rw[G,e];exact bC (i:=5) cM rfl
def sW (r v:D):Bool:=decide (iS v &&& iS r=iS r) && !(nV r && decide (iM v<=iM r))
def oN (r v:D):D:=if decide (iS v &&& iS r=iS r)=true then (if(nV r && decide (iM v<=iM r))=true then .str "further" else .non)else .str "matters"
def zP (O:cq r)(T:cq v)(f:kindOf r∈fx)(kv:bj v=true\/kindOf v = "leave"):∃d,iY [r,v]=some (d,false)/\y7 d .non=sO (sW r v)/\d=oN r v:=by
 have U:av [v,.str "matters"]=sI (iS v):=kv.elim (De T) λh=>xO T (xP h);have b:aV (fA iG (ag (fA av (fV 1 (ag (fS "matters") aj))) (ag (fA av (fV 0 (ag (fS "matters") aj))) aj))) [some (r,false),some (v,false)]=some (decide (iS v &&& iS r=iS r)):=dQ (aL [.int (iS v),.int (iS r)] (aQ (aL [v,.str "matters"] rfl U) (aQ (aL [r,.str "matters"] rfl (xO O f)) rfl)) (wo _ _));have g:aV (f2 dw (fA a9 (fV 0 aj)) (fS "leave")) [some (r,false),some (v,false)]=some (nV r):=cE (a:=kindOf r) (bb:=false) (aL [r] rfl (iK O.c)) rfl;have i:nV r=true->aV (f2 Og (fA av (fV 0 (ag (fS "further") aj))) (fA av (fV 1 (ag (fS "further") aj)))) [some (r,false),some (v,false)]=some (decide (iM v<=iM r)):=λh=>dQ (bR (.int (iM r)) (.int (iM v)) (aL [r,.str "further"] rfl (Lz O (.inr (Qs h)))) (aL [v,.str "further"] rfl (Lz T kv)) rfl);have e:=fz g i;unfold sW;cases G:decide (iS v &&& iS r=iS r) with
 |false=>exact⟨.str "matters",aw rfl (bw (bX (p:=false) (b.trans (by rw[G]))) (ay rfl)),rfl,by simp only[oN,G];rfl⟩
 |true=>
  cases M:(nV r && decide (iM v<=iM r)) with
  |true=>exact⟨.str "further",aw rfl (aD (bX (p:=true) (b.trans (by rw[G]))) (bw (e.trans (by rw[M])) (ay rfl))),rfl,by simp only[oN,G,M];rfl⟩
  |false=>exact⟨.non,aw rfl (aD (bX (p:=true) (b.trans (by rw[G]))) (aD (e.trans (by rw[M])) (ay rfl))),rfl,by simp only[oN,G,M];rfl⟩
def sX (h:k∈fx):k∈bQ:=by
 have:∀k∈fx,k∈bQ:=by decide +kernel
 exact this k h
def jc (h:kindOf r∈fx):bj r=false:=by
 have:∀k∈fx,decide (k = "root")=false:=by decide +kernel
 exact this _ h
def sY (g:cq r)(h:bj r=false):bi [r]=sI (aS r):=by
 have:=wc g.c;unfold xK at this;rwa [h,if_neg (by decide)]at this
def tZ (cs:List Cl)(r v:D):Bool:=kh cs (aX 0 v) (aX 3 v) (dm r) (aS r) && sW r v
def Hk (cs:List Cl)(r v:D):D:=if kh cs (aX 0 v) (aX 3 v) (dm r) (aS r)=true then oN r v else .str "holder"
def Kd (cs:List Cl)(M:cs.length<=60)(O:cq r)(U:cq v)(T:kindOf r∈fx)(hv:bj v=true):∃d,hV [.lst (cs.map bM),r,v]=some (d,false)/\y7 d .non=sO (tZ cs r v)/\d=Hk cs r v:=by
 obtain⟨d,c,e2,e⟩:=zP O U T (.inl hv);have b:aV (fA dD (fV 0 (fV 2 (ag (fA av (fV 1 (ag (fS "by") aj))) (ag (fA bi (fV 1 aj)) aj))))) [sL (cs.map bM),some (r,false),some (v,false)]=some (kh cs (aX 0 v) (aX 3 v) (dm r) (aS r)):=by
  refine dQ (aL [.lst (cs.map bM),v,.str (dm r),.int (aS r)] (ce rfl (ce rfl (aQ (aL [r,.str "by"] rfl (Df O (jT (.inl (sX T))))) (aQ (aL [r] rfl (sY O (jc T))) rfl)))) ?_);obtain⟨a,o,rl,m,f,rfl,_,_⟩:=sU U hv;exact CY cs M _ _
 unfold tZ;cases G:kh cs (aX 0 v) (aX 3 v) (dm r) (aS r) with
 |false=>exact⟨.str "holder",aw rfl (bw (bX (p:=false) (b.trans (by rw[G]))) (ay rfl)),rfl,by simp only[Hk,G];rfl⟩
 |true=>exact⟨d,aw rfl (aD (bX (p:=true) (b.trans (by rw[G]))) (ay (aL [r,v] rfl c))),e2,by rw[e];simp only[Hk,G];rfl⟩
def Hl (cs:List Cl)(r v:D):Int:=match kg cs (aX 0 v) (aX 3 v) (aS r) with
 |.tup [_,_,.int n]=>n
 |_=>0
def Hm (h:kh cs o rl p day=true):∃n:Int,kg cs o rl day=.tup [.str "one",.str p,.int n]:=by
 unfold kh kg at h;unfold kg;generalize Oo cs o day=G at h |-;cases G with
 |nil=>
  have h:cV (.tup [.str "none"]) (.tup [.str "one",.str p])=true:=h;simp[gb]at h
 |cons b r=>
  rw[pN]at h |-;split at h
  ·have h:cV (.tup [.str "parted",.lst ((m8 (b::r)).map .str)]) (.tup [.str "one",.str p])=true:=h;simp[gb]at h
  ·rename_i hn;rw[if_neg hn];have h:cV (.tup [.str "one",.str (iL rl b r).p]) (.tup [.str "one",.str p])=true:=h;have h:(iL rl b r).p=p:=by simpa [gb]using h
   exact⟨_,by rw[h]⟩
def Ke (h:kh cs (aX 0 v) (aX 3 v) (dm r) (aS r)=true):kg cs (aX 0 v) (aX 3 v) (aS r)=.tup [.str "one",.str (dm r),.int (Hl cs r v)]:=by
 obtain⟨n,e⟩:=Hm h;unfold Hl;rw[e]
def Nm (cs:List Cl)(r v:D):D:=.tup [.str "office",.str (aX 0 v),.int (Hl cs r v)]
def sZ (g:∀r∈af,cq r)(hv:v∈bW (au af ae)):cq v/\bj v=true:=by
 obtain⟨x,hx,rfl⟩:=vO hv;obtain⟨h1,h2⟩:=vN hx;exact⟨g _ (vL (bc h1)),h2⟩
def Hn (hl:af.length<=60)(ae:Int):(bW (au af ae)).length<=60:=by
 unfold bW;rw[vI];exact vR (vM _ _) (vR (cF af ae) hl)
def E1 {af:LD}(g:∀r∈af,cq r)(hl:af.length<=60)(ae:Int)(hn:((bW (au af ae)).map (aX 0)).Nodup)(cs:List Cl)(M:cs.length<=60){O:Nat}{r:D}(U:af[O]? = some r)(h:kindOf r∈fx):
  iH [.tup af,.int ae,.lst (cs.map bM),.int O]=lT (((bW (au af ae)).filter (tZ cs r)).map (Nm cs r)):=by
 have i:jb af:=⟨hl,λr U=>(g r U).c⟩;have b:=g r (vL U);have p:=Hn hl ae;have h1:=gf (fi:=rB (fA gD (fV 0 (fV 1 aj)))) (nT:=1) (cap:=[2,4]) (tg:=dF 0) (c:=aV (f2 y7 (fA hV (fV 1 (fV 2 (fV 0 aj)))) (fC .non))) (fe:=am 0)
  (ρ:=[sT af,sI ae,sL (cs.map bM),sI O,some (r,false),none]) (bW (au af ae)) id (tZ cs r) id
  (by show(fA gD _ _).bind _=_;rw[aL [.tup af,.int ae] rfl (sR i ae),sV hn];simp) (by omega) λv hv=>by
   obtain⟨e,G⟩:=sZ g hv;obtain⟨d,j,e2,_⟩:=Kd cs M b e h G;exact⟨[some (v,false),sL (cs.map bM),some (r,false)],rfl,dQ (bR d .non (aL [.lst (cs.map bM),r,v] rfl j) rfl e2),λ_=>⟨false,rfl⟩⟩
 rw[map_id]at h1;have k:bB ((bW (au af ae)).filter (tZ cs r))=true:=c7 λv hv=>(sZ g (vN hv).1).1.flat;refine aw rfl (kO r (bR (.tup af) (.int O) rfl rfl (by simp[bG U])) b.flat (dq h1 k (ay ?_)));refine vk (fi:=bK (am 5)) (nT:=1) (cap:=[2,4]) (tg:=dF 0) (fe:=fA bo (ag (fS "office") (ag (fA av (fV 0 (ag (fS "office") aj))) (ag (f2 bF (fA eE (fV 1 (fV 0 (ag (fA bi (fV 2 aj)) aj)))) (fI 2)) aj))))
  (ρ:=[sT af,sI ae,sL (cs.map bM),sI O,some (r,false),lT ((bW (au af ae)).filter (tZ cs r))]) ((bW (au af ae)).filter (tZ cs r)) id (Nm cs r) (by simp) (vR (vM _ _) (by omega)) λv hv=>?_
 obtain⟨l,n⟩:=vN hv;obtain⟨e,G⟩:=sZ g l;have T:(kh cs (aX 0 v) (aX 3 v) (dm r) (aS r) && sW r v)=true:=n;rw[vC]at T;have hh:=Ke T.1;refine⟨[some (v,false),sL (cs.map bM),some (r,false)],rfl,false,?_⟩;obtain⟨a,o,rl,m,f,rfl,_,_⟩:=sU e G;refine aL [.str "office",.str o,.int (Hl cs r _)] (ce rfl (aQ (aL [row a ("root" : Str) [.str o,.int m,.int f,.str rl],.str "office"] rfl ln) (ce (bR (kg cs o rl (aS r)) (.int 2) (aL [.lst (cs.map bM),row a ("root" : Str) [.str o,.int m,.int f,.str rl],.int (aS r)] (ce rfl (ce rfl (aQ (aL [r] rfl (sY b (jc h))) rfl))) (nR cs M _)) rfl ?_) rfl))) (cG _ (by simp));have hh:kg cs o rl (aS r)=_:=hh;rw[hh];simp[Um]
noncomputable def wt (day:Int)(x:Int×OI):Bool:=decide (x.1<=day) && (match x.2 with|none=>true|some u=>decide (day<u))
noncomputable def PP:OI->OI->Bool
 |_,none=>true
 |none,some _=>false
 |some x,some y=>decide (x<=y)
def Kf (a b:OI):jm [uD a,uD b]=sO (PP a b):=by
 cases b with
 |none=>exact aw rfl (bw (dQ (by simp[uD])) (ay (by cases a<;>rfl)))
 |some y=>
  refine aw rfl (aD (dQ (by simp[uD])) (ay ?_));cases a with
  |none=>exact dc (p:=false) (q:=false) (b1:=false) (by simp[uD]) (by simp)
  |some x=>exact dc (p:=true) (q:=decide (x<=y)) (b1:=false) (by simp[uD]) λ_=>by simp[uD]
def Ho (a b:Int×OI):Bool:=decide (b.1<=a.1) && PP a.2 b.2
def Nn (a b:Int×OI):iZ [jS a,jS b]=sO (Ho a b) :=
 aw rfl (ay (dc (b1:=false) (by simp[jS,GW]) λ_=>aL [uD a.2,uD b.2] (ce (by simp[jS,Bn]) (ce (by simp[jS,Bn]) rfl)) (Kf _ _)))
def L0 {af:LD}{i:Nat}{r:D}(G:af[i]? = some r)(g:cq r)(h:bj r=false):gS [.tup af,.int i]=sT [.int (aS r),.int i] :=
 aw rfl (ay (aL [.int (aS r),.int i] (ce (aL [r] (by simp[bG G]) (sY g h)) rfl) (by simp[sizeLine])))
def Sm (a b c d:Int):LP (.tup [.int a,.int b]) (.tup [.int c,.int d])=sO (decide (a<c\/(a=c/\b<d))):=by
 show(bu [.i a,.i b] [.i c,.i d]).map _=_;rw[Nj];rfl
def zQ {af:LD}{i j:Nat}{x y:D}(hx:af[i]? = some x)(hy:af[j]? = some y)(G:cq x)(M:cq y)(nx:bj x=false)(O:bj y=false):gz [.tup af,.int i,.int j]=sO (eN (x,i) (y,j)) :=
 aw rfl (ay (bR (.tup [.int (aS x),.int i]) (.tup [.int (aS y),.int j]) (aL [.tup af,.int i] rfl (L0 hx G nx)) (aL [.tup af,.int j] rfl (L0 hy M O)) (Sm _ _ _ _)))
def Bw (r:D)(G:Nat)(x:D×Nat):Bool:=eN x (r,G) && ((wt (aS r) (fY x.1) && Ho (fY r) (fY x.1)) && sW r x.1)
def Dh (r:D)(G:Nat)(x:D×Nat):D:=if eN x (r,G)=true then (if(wt (aS r) (fY x.1) && Ho (fY r) (fY x.1))=true then oN r x.1 else .str "days")else .str "order"
def Kg {af:LD}{M G:Nat}{r l:D}(f:af[M]? = some r)(hl:af[G]? = some l)(T:cq r)(a:cq l)(b:kindOf r∈fx)(c:kindOf l = "leave"):∃d,ja [.tup af,.int M,.int G]=some (d,false)/\y7 d .non=sO (Bw r M (l,G))/\d=Dh r M (l,G):=by
 have nr:=jc b;have j:=jc (xP c);obtain⟨d,m,e2,n⟩:=zP T a b (.inr c);let E:DL.Env:=[sT af,sI M,sI G,some (r,false),some (jS (fY l),false)];have g:∀ρ:DL.Env,ρ[0]? = some (sT af)->ρ[2]? = some (sI G)->f2 bF (am 0) (am 2) ρ=some (l,false):=λρ h0 h2=>bR (.tup af) (.int G) (by simp[h0]) (by simp[h2]) (by simp[bG hl]);have e:aV (fA gz (fV 0 (fV 2 (fV 1 aj)))) E=some (eN (l,G) (r,M)):=dQ (aL [.tup af,.int G,.int M] rfl (zQ hl f a T j nr));have o:aV (fA gu (ag (fA bi (fV 3 aj)) (fV 4 aj))) E=some (wt (aS r) (fY l)):=dQ (aL [.int (aS r),jS (fY l)] (aQ (aL [r] rfl (sY T nr)) (ce rfl rfl)) (xM _ _ _));have q:aV (fA iZ (ag (fA av (fV 3 (ag (fS "stretch") aj))) (fV 4 aj))) E=some (Ho (fY r) (fY l)):=dQ (aL [jS (fY r),jS (fY l)] (aQ (aL [r,.str "stretch"] rfl (Dg T b)) (ce rfl rfl)) (Nn _ _));have i:=fW (bX o) λ_=>bX q;have go:∀(h:FS)(res:Option Res),h E=res->aA (br 3 (f2 bF (am 0) (am 1))) (aA (br 4 (fA av (ag (f2 bF (am 0) (am 2)) (ag (fS "stretch") aj)))) h) [sT af,sI M,sI G,none,none]=res:=λh res k=>
  kO r (bR (.tup af) (.int M) rfl rfl (by simp[bG f])) T.flat (kO (jS (fY l)) (aL [l,.str "stretch"] (aQ (g _ rfl rfl) rfl) (Dg a (xP c))) (lq _) k)
 unfold Bw;cases O:eN (l,G) (r,M) with
 |false=>exact⟨.str "order",aw rfl (go _ _ (bw (bX (p:=false) (e.trans (by rw[O]))) (ay rfl))),rfl,by simp only[Dh,O];rfl⟩
 |true=>
  cases U:(wt (aS r) (fY l) && Ho (fY r) (fY l)) with
  |false=>exact⟨.str "days",aw rfl (go _ _ (aD (bX (p:=true) (e.trans (by rw[O]))) (bw (i.trans (by rw[<-Bool.not_and,U];rfl)) (ay rfl)))),rfl,by simp only[Dh,O,U];rfl⟩
  |true=>exact⟨d,aw rfl (go _ _ (aD (bX (p:=true) (e.trans (by rw[O]))) (aD (i.trans (by rw[<-Bool.not_and,U];rfl)) (ay (aL [r,l] (ce rfl (aQ (g _ rfl rfl) rfl)) m))))),e2,by rw[n];simp only[Dh,O,U];rfl⟩
def mB {af:LD}{ae:Int}{i:Nat}{r:D}(M:af[i]? = some r)(g:cq r):gy [.tup af,.int ae,.int i]=sO (decide (ba r<=ae) && nV r):=by
 have G:cD [.tup af,.int ae,.int i]=sO (decide (ba r<=ae)):=by
  obtain⟨a,k,ax,rfl,d⟩:=g;exact lh M ae
 exact aw rfl (ay (dc (aL [.tup af,.int ae,.int i] rfl G) λ_=>bR (.str (kindOf r)) (.str "leave") (aL [r] (ce (bR (.tup af) (.int i) rfl rfl (by simp[bG M])) rfl) (iK g.c)) rfl (by simp[nV])))
noncomputable def tj (K:KL)(p:Str):KL:=(K.filter λx=>nV x.1).filter λx=>decide (aX 2 x.1=p)
def Hq (g:∀r∈af,cq r)(h:x∈tj (au af ae) p):af[x.2]? = some x.1/\cq x.1/\kindOf x.1 = "leave":=by
 obtain⟨h1,_⟩:=vN h;obtain⟨h2,h3⟩:=vN h1;exact⟨bc h2,g _ (vL (bc h2)),Qs h3⟩
def E2 {af:LD}(g:∀r∈af,cq r)(hl:af.length<=60)(ae:Int)(p:Str):kZ [.tup af,.int ae,.str p]=lT ((tj (au af ae) p).map λx=>.int x.2):=by
 have M:=cF af ae;have h1:=gf (fi:=bK (fA cH (fV 0 (fV 1 aj)))) (nT:=1) (cap:=[0,1]) (tg:=dF 0) (c:=aV (fA gy (fV 1 (fV 2 (fV 0 aj))))) (fe:=am 0)
  (ρ:=[sT af,sI ae,sS p,none]) (au af ae) (λx=>.int x.2) (λx=>nV x.1) (λx=>.int x.2)
  (by show(fA cH _ _).bind _=_;rw[aL [.tup af,.int ae] rfl (lf af (λr O=>(g r O).c.rp) (by omega) ae)];rfl) (by omega) λx hx=>by
   have hk:decide (ba x.1<=ae)=true:=(vN hx).2;have:=mB (ae:=ae) (bc hx) (g _ (vL (bc hx)));rw[hk,Bool.true_and]at this;exact⟨_,rfl,dQ (aL [.tup af,.int ae,.int x.2] rfl this),λ_=>⟨false,rfl⟩⟩
 have G:bB (((au af ae).filter λx=>nV x.1).map λx=>D.int x.2)=true:=c7 λd hd=>by obtain⟨x,_,rfl⟩:=vO hd;rfl
 refine aw rfl (dq h1 G (ay ?_));refine gf (fi:=bK (am 3)) (nT:=1) (cap:=[2,0]) (tg:=dF 0) (c:=aV (f2 dw (fA av (ag (f2 bF (am 2) (am 0)) (ag (fS "person") aj))) (am 1))) (fe:=am 0)
  (ρ:=[sT af,sI ae,sS p,lT (((au af ae).filter λx=>nV x.1).map λx=>.int x.2)]) ((au af ae).filter λx=>nV x.1) (λx=>.int x.2) (λx=>decide (aX 2 x.1=p)) (λx=>.int x.2) (by simp) (vR (vM _ _) (by omega)) λx hx=>?_
 obtain⟨h2,h3⟩:=vN hx;obtain⟨a,d,b,q,m,st,f,e,_⟩:=pQ (g _ (vL (bc h2))) (Qs h3);refine⟨[sI x.2,sS p,sT af],rfl,dQ (bR (.str (aX 2 x.1)) (.str p) (aL [x.1,.str "person"] (ce (bR (.tup af) (.int x.2) rfl rfl (by simp[bG (bc h2)])) rfl) ?_) rfl (by simp)),λ_=>⟨false,rfl⟩⟩;rw[e];exact bC (i:=2) cM rfl
def E3 {af:LD}(g:∀r∈af,cq r)(hl:af.length<=60)(ae:Int){G:Nat}{r:D}(M:af[G]? = some r)(T:kindOf r∈fx):
  jn [.tup af,.int ae,.int G]=lT (((tj (au af ae) (dm r)).filter (Bw r G)).map λx=>.tup [.str "leave",.int x.2]):=by
 have U:=g r (vL M);have b:=cF af ae;have e:(tj (au af ae) (dm r)).length<=60:=vR (vM _ _) (vR (vM _ _) (by omega));have O:bB ((tj (au af ae) (dm r)).map λx=>D.int x.2)=true:=c7 λd hd=>by obtain⟨x,_,rfl⟩:=vO hd;rfl
 refine aw rfl (dq (ds:=(tj (au af ae) (dm r)).map λx=>.int x.2) (aL [.tup af,.int ae,.str (dm r)] (ce rfl (ce rfl (aQ (aL [r,.str "by"] (ce (bR (.tup af) (.int G) rfl rfl (by simp[bG M])) rfl) (Df U (jT (.inl (sX T))))) rfl))) (E2 g hl ae _)) O (ay ?_));refine gf (fi:=bK (am 3)) (nT:=1) (cap:=[0,2]) (tg:=dF 0) (c:=aV (f2 y7 (fA ja (fV 1 (fV 2 (fV 0 aj)))) (fC .non))) (fe:=fA bo (ag (fS "leave") (fV 0 aj)))
  (ρ:=[sT af,sI ae,sI G,lT ((tj (au af ae) (dm r)).map λx=>.int x.2)]) (tj (au af ae) (dm r)) (λx=>.int x.2) (Bw r G) (λx=>.tup [.str "leave",.int x.2]) (by simp) (by omega) λx hx=>?_
 obtain⟨h1,h2,h3⟩:=Hq g hx;obtain⟨d,a,e2,_⟩:=Kg M h1 U h2 T h3;exact⟨[sI x.2,sT af,sI G],rfl,dQ (bR d .non (aL [.tup af,.int G,.int x.2] rfl a) rfl e2),λ_=>⟨false,aL [.str "leave",.int x.2] rfl (cG _ (by simp))⟩⟩
abbrev Bs:=Option Str×Int
noncomputable def Ax:Bs->D
 | (some o,n)=>.tup [.str "office",.str o,.int n]
 | (none,n)=>.tup [.str "leave",.int n]
noncomputable def zR:Bs->List At
 | (some o,n)=>[.i n,.s ("office" : Str),.s o,.i n]
 | (none,n)=>[.i n,.s ("leave" : Str),.i n]
def Hr (b:Bs):b8 (Ax b)=true:=by rcases b with⟨_|o,n⟩<;>rfl
def Kh (b:Bs):bF (Ax b) (.int (-1))=sI b.2:=by rcases b with⟨_|o,n⟩<;>rfl
def Hs (a b:Bs):(bu (zR a) (zR b)).isSome=true:=by
 have M:("office" : Str) ≠ "leave":=by decide +kernel
 rcases a with⟨_|o,n⟩<;>rcases b with⟨_|o',G⟩
 ·show(bu [.i n,.s ("leave" : Str),.i n] [.i G,.s ("leave" : Str),.i G]).isSome=true;rw[bu];split
  ·rw[bu,if_pos rfl,bu];split
   ·rw[bu];rfl
   ·rfl
  ·rfl
 ·show(bu [.i n,.s ("leave" : Str),.i n] [.i G,.s ("office" : Str),.s o',.i G]).isSome=true;rw[bu];split
  ·rw[bu,if_neg (Ne.symm M)];rfl
  ·rfl
 ·show(bu [.i n,.s ("office" : Str),.s o,.i n] [.i G,.s ("leave" : Str),.i G]).isSome=true;rw[bu];split
  ·rw[bu,if_neg M];rfl
  ·rfl
 ·show(bu [.i n,.s ("office" : Str),.s o,.i n] [.i G,.s ("office" : Str),.s o',.i G]).isSome=true;rw[bu];split
  ·rw[bu,if_pos rfl,bu];split
   ·rw[bu];split
    ·rw[bu];rfl
    ·rfl
   ·rfl
  ·rfl
def Ki (h:zR a=zR b):a=b:=by
 rcases a with⟨_|o,n⟩<;>rcases b with⟨_|o',G⟩<;>simp[zR]at h
 ·rw[h]
 ·rw[h.1,h.2.1]
def Di (l:List Bs):dn (l.map zR)=true:=by
 unfold dn;simp[all_eq_true,Hs]
def Ht (e:c8 (zR a)=c8 (zR b)):a=b:=Ki (l8 (Di [a,b]) (by simp) (by simp) e)
def VM (cs:List Cl)(r v:D):Bs:=(some (aX 0 v),Hl cs r v)
def zS (K:KL)(cs:List Cl)(r:D)(G:Nat):List Bs:=((bW K).filter (tZ cs r)).map (VM cs r)++((tj K (dm r)).filter (Bw r G)).map λx=>(none,(x.2:Int))
def No (K:KL)(cs:List Cl)(r:D)(G:Nat):List Bs:=dO (λb=>c8 (zR b)) (zS K cs r G)
def E4 (hn:((bW (au af ae)).map (aX 0)).Nodup)(cs:List Cl)(r:D)(G:Nat):(zS (au af ae) cs r G).Nodup:=by
 unfold zS;rw[nodup_append];refine⟨?_,?_,?_⟩
 ·exact pairwise_map.mpr ((List.Pairwise.sublist filter_sublist (pairwise_map.mp hn)).imp λh e=>h (vK (Prod.mk.inj e).1))
 ·refine pairwise_map.mpr ((List.Pairwise.sublist (filter_sublist.trans (filter_sublist.trans filter_sublist)) (pairwise_map.mp (fX af ae))).imp λh e=>h ?_);have:=(Prod.mk.inj e).2;omega
 ·intro a ha b hb e;obtain⟨v,_,rfl⟩:=vO ha;obtain⟨x,_,rfl⟩:=vO hb;cases (Prod.mk.inj e).1
theorem wu {α:Type}{g:α->D}{h:α->List At}:∀(l:List α),(∀x∈l,Nb (g x)=some (h x))->j5 (l.map g)=some (l.map h)
 |[],_=>rfl
 |x::l,k=>by
  rw[uY,j5,k x mX,vJ,wu l λy hy=>k y (mZ _ hy)];rfl
def Dj (hl:af.length<=30)(ae:Int)(cs:List Cl)(r:D)(G:Nat):(zS (au af ae) cs r G).length<=60:=by
 have h1:((bW (au af ae)).filter (tZ cs r)).length<=30:=by
  refine vR (vM _ _) ?_;unfold bW;rw[vI];exact vR (vM _ _) (vR (cF af ae) hl)
 have h2:((tj (au af ae) (dm r)).filter (Bw r G)).length<=30:=vR (vM _ _) (vR (vM _ _) (vR (vM _ _) (vR (cF af ae) hl)));unfold zS;rw[uZ,vI,vI];omega
def Hu {f:FE}{ρ:DL.Env}{b:Bool}(l:List Bs)(hl:l.length<=60)(hn:l.Nodup)(e:f ρ=some (.lst (l.map Ax),b)):Bh f (xw [] (fA bo (ag (f2 bF (am 0) (f1 y6 (fI 1))) (fV 0 aj)))) ρ=lT ((dO (λb=>c8 (zR b)) l).map Ax):=by
 have hm:jL (xw [] (fA bo (ag (f2 bF (am 0) (f1 y6 (fI 1))) (fV 0 aj))) ρ) (l.map Ax)=some (l.map λb=>.tup [.int b.2,Ax b]):=j9 l λb _=>by
  show(fA bo _ _).map _=_;rw[aL [.int b.2,Ax b] (ce (bR (Ax b) (.int (-1)) rfl rfl (Kh b)) (ce rfl rfl)) (cG _ (by simp))];rfl
 have hk:j5 (l.map λb=>D.tup [.int b.2,Ax b])=some (l.map zR):=wu l λb _=>by rcases b with⟨_|o,n⟩<;>rfl
 have G:(l.map zR).length<64/\dn (l.map zR)=true/\True/\((l.map zR).map c8).Nodup:=by
  refine⟨by rw[vI];omega,Di l,trivial,?_⟩;rw[uP];exact pairwise_map.mpr (List.Pairwise.imp (λh e=>h (Ht e)) hn)
 unfold Bh xx;rw[e];simp only[vJ];rw[hm];simp only[vJ];rw[hk];simp only[vJ];rw[if_pos G];unfold j4;have M:((dO (λb=>c8 (zR b)) l).map λb=>(zR b,Ax b))=dO (λp:List At×D=>c8 p.1) (l.map λb=>(zR b,Ax b)):=by
  refine jx _ (λx hx y hy e=>?_) ((aZ _ _).map _) ?_
  ·obtain⟨a,_,rfl⟩:=vO hx;obtain⟨b,_,rfl⟩:=vO hy;rw[Ht e]
  ·exact pairwise_map.mpr (ee _ _)
 rw[zip_map',<-M,uP];rfl
section
variable {af:LD}(g:∀r∈af,cq r) (hl:af.length<=30) (ae:Int) (hn:((bW (au af ae)).map (aX 0)).Nodup)
include g hl hn
theorem zU (cs:List Cl)(h:cs.length<=60){G:Nat}{r:D}(O:af[G]? = some r)(U:kindOf r∈fx)(hk:ba r<=ae):fH [.tup af,.int ae,.lst (cs.map bM),.int G]=lT ((No (au af ae) cs r G).map Ax):=by
 have e:=g r (vL O);have f:∀(ρ:DL.Env)(j:Nat),ρ[0]? = some (sT af)->ρ[j]? = some (sI G)->fA a9 (ag (f2 bF (am 0) (am j)) aj) ρ=sS (kindOf r):=λρ j h0 h2=>aL [r] (ce (bR (.tup af) (.int G) (by simp[h0]) (by simp[h2]) (by simp[bG O])) rfl) (iK e.c);have i:cD [.tup af,.int ae,.int G]=sO true:=by
  obtain⟨a,k,ax,rfl,d⟩:=id e;rw[lh O ae,As (show a<=ae from hk)]
 have l:cj [.tup af,.int ae,.int G]=sO (decide (kindOf r∈[("paper" : Str),"like","copy"])):=aw rfl (ay (dc (p:=true) (aL [.tup af,.int ae,.int G] rfl i) λ_=>bR (.str (kindOf r)) (.tup ([("paper" : Str),"like","copy"].map .str)) (f _ 2 rfl rfl) rfl (nO _ _)));have hb:eF [.tup af,.int ae,.int G]=sO true:=by
  refine(aw rfl (ay (lS (aL [.tup af,.int ae,.int G] rfl (mB O e)) λ_=>aL [.tup af,.int ae,.int G] rfl l))).trans ?_;rw[As hk,Bool.true_and];have:∀k∈fx,(decide (k = "leave") || decide (k∈[("paper" : Str),"like","copy"]))=true:=by decide +kernel
  unfold nV;rw[this _ U]
 have m:decide (kindOf r = "copy")=false:=by
  have:∀k∈fx,decide (k = "copy")=false:=by decide +kernel
  exact this _ U
 have T:=Dj hl ae cs r G;have n:bB ((zS (au af ae) cs r G).map Ax)=true:=c7 λd hd=>by obtain⟨b,_,rfl⟩:=vO hd;exact Hr b
 refine aw rfl (aD (bX (p:=true) (dQ (aL [.tup af,.int ae,.int G] rfl hb))) (aD (cE (a:=kindOf r) (bb:=false) (f _ 3 rfl rfl) m) (dq (ds:=(zS (au af ae) cs r G).map Ax) ?_ n (ay (Hu (b:=false) _ T (E4 hn cs r G) rfl)))));have o:=E1 g (by omega) ae hn cs h O U;have hv:=E3 g (by omega) ae O U;refine c9 (x:=.lst (((bW (au af ae)).filter (tZ cs r)).map (Nm cs r))) (y:=.lst (((tj (au af ae) (dm r)).filter (Bw r G)).map λx=>.tup [.str "leave",.int x.2])) (b1:=true) (b2:=true) (aL [.tup af,.int ae,.lst (cs.map bM),.int G] rfl o) (aL [.tup af,.int ae,.int G] rfl hv) ?_;have M:=T;unfold zS at M |-;rw[uZ,vI,vI]at M;refine(if_pos (fu (by rw[vI,vI];omega))).trans ?_;rw[uW,uP,uP];rfl
end
def Np (K:KL)(c r:D):Bool:=decide (dm c=dm r) || (!decide (kindOf r = "copy") && (bW K).any λv=>decide (iS v &&& iS r=iS r) && kh (bx K) (aX 0 v) (aX 3 v) (dm c) (aS c))
def By {α:Type}(l:List α)(p f:α->Bool):((l.filter p).map f).any id=l.any λx=>p x && f x:=by
 induction l with
 |nil=>rfl
 |cons x l G=>
  rw[filter_cons,any_cons,<-G];cases h:p x with
  |true=>rw[if_pos rfl,uY,any_cons];rfl
  |false=>rw[if_neg (by decide)];rfl
def Nq {af:LD}(g:∀r∈af,cq r)(hl:af.length<=60)(ae:Int)(s:(bx (au af ae)).length<=60)(hn:((bW (au af ae)).map (aX 0)).Nodup){M O:Nat}{c r:D}(hc:af[M]? = some c)(d:af[O]? = some r)(i:kindOf c = "call")(j:kindOf r∈bQ):
  mw [.tup af,.int ae,.lst ((bx (au af ae)).map bM),.int M,.int O]=sO (Np (au af ae) c r):=by
 have t:jb af:=⟨hl,λr d=>(g r d).c⟩;have l:=g c (vL hc);have e:=g r (vL d);have n:=bG hc;have u:=bG d;have w:=Df l (jT (.inr i));have y:=Df e (jT (.inl j));have T:∀v∈bW (au af ae),cq v/\bj v=true:=λv hv=>by
  obtain⟨x,hx,rfl⟩:=vO hv;obtain⟨h1,h2⟩:=vN hx;exact⟨g _ (vL (bc h1)),h2⟩
 have E:(bW (au af ae)).length<=60:=by
  unfold bW;rw[vI];exact vR (vM _ _) (vR (cF af ae) hl)
 have z:bi [c]=sI (aS c):=by
  have:=wc l.c;unfold xK at this;rwa [if_neg (by unfold bj;rw[i];decide +kernel)]at this
 have p:∀(b:OB),aV (f2 dw (am 6) (fA av (fV 5 (ag (fS "by") aj)))) [sT af,sI ae,sL ((bx (au af ae)).map bM),sI M,sI O,some (r,false),sS (dm c),b]=some (decide (dm c=dm r)):=λb=>dQ (bR (.str (dm c)) (.str (dm r)) rfl (aL [r,.str "by"] rfl y) (by simp));have q:∀(b:OB),aV (f2 dw (fA a9 (fV 5 aj)) (fS "copy")) [sT af,sI ae,sL ((bx (au af ae)).map bM),sI M,sI O,some (r,false),sS (dm c),b]=some (decide (kindOf r = "copy")):=λb=>cE (a:=kindOf r) (bb:=false) (aL [r] rfl (iK e.c)) rfl;refine aw rfl (kO r (bR (.tup af) (.int O) rfl rfl (by simp[u])) e.flat (kO (.str (dm c)) (aL [c,.str "by"] (ce (bR (.tup af) (.int M) rfl rfl (by simp[n])) rfl) w) rfl ?_));unfold Np;cases h1:decide (dm c=dm r) with
 |true=>exact bw ((p none).trans (by rw[h1])) (ay rfl)
 |false=>
  refine aD ((p none).trans (by rw[h1])) ?_;cases h2:decide (kindOf r = "copy") with
  |true=>exact bw ((q none).trans (by rw[h2])) (ay rfl)
  |false=>
   have A:kindOf r∈fx:=by
    have B:=of_decide_eq_false h2;have:∀k∈bQ,k ≠ "copy"->k∈fx:=by decide +kernel
    exact this _ j B
   have pm:=xO e A;refine aD ((q none).trans (by rw[h2])) ?_;have G:=gf (fi:=rB (fA gD (fV 0 (fV 1 aj)))) (nT:=1) (cap:=[5]) (tg:=dF 0) (c:=aV (fA iG (ag (fA av (fV 0 (ag (fS "matters") aj))) (ag (fA av (fV 1 (ag (fS "matters") aj))) aj)))) (fe:=am 0)
    (ρ:=[sT af,sI ae,sL ((bx (au af ae)).map bM),sI M,sI O,some (r,false),sS (dm c),none]) (bW (au af ae)) id (λv=>decide (iS v &&& iS r=iS r)) id
    (by show(fA gD _ _).bind _=_;rw[aL [.tup af,.int ae] rfl (sR t ae),sV hn];simp) (by omega) λv hv=>by
     obtain⟨h,U⟩:=T v hv;exact⟨[some (v,false),some (r,false)],rfl,dQ (aL [.int (iS v),.int (iS r)] (aQ (aL [v,.str "matters"] rfl (De h U)) (aQ (aL [r,.str "matters"] rfl pm) rfl)) (wo _ _)),λ_=>⟨false,rfl⟩⟩
   rw[map_id]at G;refine dq (ds:=(bW (au af ae)).filter λv=>decide (iS v &&& iS r=iS r)) G (c7 λv hv=>(T v (vN hv).1).1.flat) (ay ?_);have C:=vk (fi:=bK (am 7)) (nT:=1) (cap:=[2,6,0,3]) (tg:=dF 0) (fe:=fA dD (fV 1 (fV 0 (fV 2 (ag (fA bi (ag (f2 bF (am 3) (am 4)) aj)) aj)))))
    (ρ:=[sT af,sI ae,sL ((bx (au af ae)).map bM),sI M,sI O,some (r,false),sS (dm c),lT ((bW (au af ae)).filter λv=>decide (iS v &&& iS r=iS r))]) ((bW (au af ae)).filter λv=>decide (iS v &&& iS r=iS r)) id (λv=>.bl (kh (bx (au af ae)) (aX 0 v) (aX 3 v) (dm c) (aS c)))
    (by simp) (vR (vM _ _) (by omega)) λv hv=>by
     obtain⟨h,U⟩:=T v (vN hv).1;obtain⟨a,o,rl,m,f,rfl,_,_⟩:=sU h U;exact⟨[some (row a ("root" : Str) [.str o,.int m,.int f,.str rl],false),sL ((bx (au af ae)).map bM),sS (dm c),sT af,sI M],rfl,false,aL [.lst ((bx (au af ae)).map bM),row a ("root" : Str) [.str o,.int m,.int f,.str rl],.str (dm c),.int (aS c)] (ce rfl (ce rfl (ce rfl (aQ (aL [c] (ce (bR (.tup af) (.int M) rfl rfl (by simp[n])) rfl) z) rfl)))) (CY _ s _ _)⟩
   refine(aL [_] (aQ C rfl) ?_);show(tR _).map _=_;rw[rL,map_some,By];rfl
def Bz (g:cq r)(h:kindOf r = "call"):∃a d b,∃n:Nat,r=row a ("call" : Str) [.int d,.str b,.int n]:=by
 obtain⟨a,k,ax,rfl,d⟩:=g;have hk:k = "call":=h;clear h;cases d with
 |copy k G d b n=>subst hk;exact⟨a,d,b,n,rfl⟩
 |root=>exact jo hk
 |named=>exact jo hk
 |three k G=>rcases G with rfl|rfl<;>exact jo hk
 |leave=>exact jo hk
 |paper k G=>rcases G with rfl|rfl<;>exact jo hk
def Kj (af:LD)(ae:Int)(G:Nat)(r:D)(day:Int)(c:D):Bool:=decide (kindOf c = "call") && (decide (jB 2 c=G) && (decide (aS c<=day) && (gV af ae c && Np (au af ae) c r)))
def xQ (e:f ρ=some (.str a,bb)):aV (f2 tO f (fS b)) ρ=some (!decide (a=b)):=dQ (c9 (x:=.str a) (y:=.str b) (b1:=bb) (b2:=false) e rfl (by simp))
section
variable {af:LD}(g:∀r∈af,cq r) (hl:af.length<=60) (ae:Int) (lu:(bx (au af ae)).length<=60) (hn:((bW (au af ae)).map (aX 0)).Nodup)
include g hl lu hn
theorem zV {M G:Nat}{c r:D}(hc:af[M]? = some c)(U:af[G]? = some r)(j:kindOf r∈bQ)(day:Int):jQ [.tup af,.int ae,.lst ((bx (au af ae)).map bM),.int M,.int G,.int day]=sO (Kj af ae G r day c):=by
 have T:=g c (vL hc);have k:=bG hc;have f:aV (f2 tO (fA a9 (fV 6 aj)) (fS "call")) [sT af,sI ae,sL ((bx (au af ae)).map bM),sI M,sI G,sI day,some (c,false)]=some (!decide (kindOf c = "call")):=xQ (a:=kindOf c) (bb:=false) (aL [c] rfl (iK T.c));refine aw rfl (kO c (bR (.tup af) (.int M) rfl rfl (by simp[k])) T.flat ?_);unfold Kj;by_cases hk:kindOf c = "call"
 ·obtain⟨a,d,b,n,e⟩:=Bz T hk;have l:jB 2 c=(n:Int):=by rw[e];rfl
  have e2:aS c=d:=by rw[e];rfl
  have po:av [c,.str "of"]=sI n:=by rw[e];exact bC (i:=2) cM rfl
  have m:bi [c]=sI d:=by
   have:=wc T.c;unfold xK at this;rwa [if_neg (by unfold bj;rw[hk];decide +kernel),e2]at this
  have o:aV (f2 tO (fA av (fV 6 (ag (fS "of") aj))) (am 4)) [sT af,sI ae,sL ((bx (au af ae)).map bM),sI M,sI G,sI day,some (c,false)]=some (!decide ((n:Int)=G)):=dQ (bR (.int n) (.int G) (aL [c,.str "of"] rfl po) rfl (by simp));have s:aV (f2 BS (fA bi (fV 6 aj)) (am 5)) [sT af,sI ae,sL ((bx (au af ae)).map bM),sI M,sI G,sI day,some (c,false)]=some (decide (day<d)):=dQ (bR (.int d) (.int day) (aL [c] rfl m) rfl rfl);have O:=fW f λ_=>fW o λ_=>s;rw[l,e2,As hk,Bool.true_and];rw[As hk]at O;by_cases h1:(n:Int)=G
  ·by_cases h2:d<=day
   ·rw[As h1,As h2,Bool.true_and,Bool.true_and];rw[As h1,Qn (by omega)]at O;exact aD O (ay (dc (aL [.tup af,.int ae,.int M] rfl (sE af (λr U=>(g r U).c.rp) (by omega) ae hc)) λ_=>aL [.tup af,.int ae,.lst ((bx (au af ae)).map bM),.int M,.int G] rfl (Nq g hl ae lu hn hc U hk j)))
   ·rw[Qn h2,Bool.false_and,Bool.and_false];rw[As h1,As (show day<d by omega)]at O;exact bw O (ay rfl)
  ·rw[Qn h1,Bool.false_and];rw[Qn h1]at O;exact bw O (ay rfl)
 ·rw[Qn hk,Bool.false_and];refine bw (fW (p:=true) (q:=false) (f.trans (by rw[Qn hk];rfl)) λh=>by cases h) (ay rfl)
def fZ (af:LD)(ae:Int)(G:Nat)(r:D)(day:Int):LN:=if ba r<=ae/\kindOf r∈bQ then ((au af ae).filter λx=>Kj af ae G r day x.1).map (·.2)else []
theorem pR {G:Nat}{r:D}(M:af[G]? = some r)(day:Int):jR [.tup af,.int ae,.lst ((bx (au af ae)).map bM),.int G,.int day]=lT ((fZ af ae G r day).map λn:Nat=>.int n):=by
 have f:=g r (vL M);have i:=bG M;have T:cD [.tup af,.int ae,.int G]=sO (decide (ba r<=ae)):=by
  obtain⟨a,k,ax,e,d⟩:=f;rw[e]at M;rw[show ba r=a by rw[e];rfl];exact lh M ae
 have h:∀ρ:DL.Env,ρ[0]? = some (sT af)->ρ[2]? = some (sI G)->fA a9 (ag (f2 bF (am 0) (am 2)) aj) ρ=sS (kindOf r):=λρ h0 h2=>aL [r] (ce (bR (.tup af) (.int G) (by simp[h0]) (by simp[h2]) (by simp[i])) rfl) (iK f.c);have U:gy [.tup af,.int ae,.int G]=sO (decide (ba r<=ae) && decide (kindOf r = "leave")):=aw rfl (ay (dc (aL [.tup af,.int ae,.int G] rfl T) λ_=>bR (.str (kindOf r)) (.str "leave") (h _ rfl rfl) rfl (by simp)));have j:cj [.tup af,.int ae,.int G]=sO (decide (ba r<=ae) && decide (kindOf r∈[("paper" : Str),"like","copy"])):=aw rfl (ay (dc (aL [.tup af,.int ae,.int G] rfl T) λ_=>bR (.str (kindOf r)) (.tup ([("paper" : Str),"like","copy"].map .str)) (h _ rfl rfl) rfl (nO _ _)));have hb:eF [.tup af,.int ae,.int G]=sO (decide (ba r<=ae/\kindOf r∈bQ)):=by
  refine(aw rfl (ay (lS (aL [.tup af,.int ae,.int G] rfl U) λ_=>aL [.tup af,.int ae,.int G] rfl j))).trans ?_;congr 3;simp only[bQ,mem_cons,not_mem_nil,or_false];by_cases h1:ba r<=ae
  ·simp[h1]
  ·simp[h1]
 unfold fZ;by_cases hx:ba r<=ae/\kindOf r∈bQ
 ·rw[if_pos hx];refine aw rfl (aD (bX (p:=true) (dQ (aL [.tup af,.int ae,.int G] rfl (by rw[hb,As hx])))) (ay ?_));have O:=gf (fi:=bK (fA cH (fV 0 (fV 1 aj)))) (nT:=1) (cap:=[0,1,2,3,4]) (tg:=dF 0) (c:=aV (fA jQ (fV 1 (fV 2 (fV 3 (fV 0 (fV 4 (fV 5 aj)))))))) (fe:=am 0)
   (ρ:=[sT af,sI ae,sL ((bx (au af ae)).map bM),sI G,sI day]) (au af ae) (λx=>.int x.2) (λx=>Kj af ae G r day x.1) (λx=>.int x.2)
   (by show(fA cH _ _).bind _=_;rw[aL [.tup af,.int ae] rfl (lf af (λr M=>(g r M).c.rp) (by omega) ae)];rfl) (vR (cF af ae) (by omega)) λx b=>by
    exact⟨_,rfl,dQ (aL [.tup af,.int ae,.lst ((bx (au af ae)).map bM),.int x.2,.int G,.int day] rfl (zV g hl ae lu hn (bc b) M hx.2 day)),λ_=>⟨false,rfl⟩⟩
  rw[uP];exact O
 ·rw[if_neg hx];exact aw rfl (bw (bX (p:=false) (dQ (aL [.tup af,.int ae,.int G] rfl (by rw[hb,Qn hx])))) (ay (aL [] rfl (fK _ (by simp)))))
omit lu in
end
noncomputable def bN:LS:=[("paper" : Str),"like","copy"]
noncomputable def Hv (w:Str):Bs->D
 | (some o,n)=>.tup [.str "office",.str o,.int n]
 | (none,n)=>.tup [.str w,.int n]
def Nr (r:D):Str:=if kindOf r = "copy" then ("copy" : Str)else ("leave" : Str)
def E5 (b:Bs):Hv ("leave" : Str) b=Ax b:=by rcases b with⟨_|o,n⟩<;>rfl
def wv {af:LD}{n:Nat}(h:af.length<=n)(ae:Int):cD [.tup af,.int ae,.int n]=sO false:=by
 refine aw rfl (ay (dc (p:=false) (q:=false) (b1:=false) ?_ λz=>by cases z));have h1:¬(n:Int)<af.length:=by omega
 exact(zr (p:=true) (q:=false) (x:=.int 0) (y:=.int n) (z:=.int af.length) (b1:=false) (b2:=false) (b3:=false) (b4:=false) rfl rfl (by simp) (by simp) λ_=>by simp[h1])
def Hw {af:LD}{i:Nat}{r:D}(G:af[i]? = some r)(g:cq r)(ae:Int):cD [.tup af,.int ae,.int i]=sO (decide (ba r<=ae)):=by
 obtain⟨a,k,ax,rfl,d⟩:=g;exact lh G ae
def Dk {af:LD}{i:Nat}{r:D}(G:af[i]? = some r)(g:cq r){ρ:DL.Env}{j:Nat}(h0:ρ[0]? = some (sT af))(hj:ρ[j]? = some (sI i)):fA a9 (ag (f2 bF (am 0) (am j)) aj) ρ=sS (kindOf r) :=
 aL [r] (ce (bR (.tup af) (.int i) (by simp[h0]) (by simp[hj]) (by simp[bG G])) rfl) (iK g.c)
def lr {af:LD}{i:Nat}{r:D}(G:af[i]? = some r)(g:cq r)(ae:Int):cj [.tup af,.int ae,.int i]=sO (decide (ba r<=ae) && decide (kindOf r∈bN)) :=
 aw rfl (ay (dc (aL [.tup af,.int ae,.int i] rfl (Hw G g ae)) λ_=>bR (.str (kindOf r)) (.tup (bN.map .str)) (Dk G g rfl rfl) rfl (nO _ _)))
def zW {af:LD}{i:Nat}{r:D}(G:af[i]? = some r)(g:cq r)(ae:Int):eF [.tup af,.int ae,.int i]=sO (decide (ba r<=ae) && decide (kindOf r∈bQ)):=by
 refine(aw rfl (ay (lS (aL [.tup af,.int ae,.int i] rfl (mB G g)) λ_=>aL [.tup af,.int ae,.int i] rfl (lr G g ae)))).trans ?_;congr 3;unfold nV;simp only[bQ,bN,mem_cons,not_mem_nil,or_false];by_cases h1:ba r<=ae
 ·simp[h1]
 ·simp[h1]
def eO (af:LD)(ae:Int)(r:D)(G n:Nat):Bool:=match af[n]? with
 |none=>false
 |some q=>(decide (ba q<=ae) && decide (kindOf q∈bN)) && eN (q,n) (r,G)
def mC (g:cq r)(h:kindOf r = "copy"):∃a d b,∃n:Nat,r=row a ("copy" : Str) [.int d,.str b,.int n]:=by
 obtain⟨a,k,ax,rfl,d⟩:=g;have hk:k = "copy":=h;clear h;cases d with
 |copy k G d b n=>subst hk;exact⟨a,d,b,n,rfl⟩
 |root=>exact jo hk
 |named=>exact jo hk
 |three k G=>rcases G with rfl|rfl<;>exact jo hk
 |leave=>exact jo hk
 |paper k G=>rcases G with rfl|rfl<;>exact jo hk
def mD (h:kindOf r∈bN):bj r=false:=by
 have:∀k∈bN,decide (k = "root")=false:=by decide +kernel
 exact this _ h
def E6 {af:LD}(g:∀r∈af,cq r)(ae:Int){G:Nat}{r:D}(O:af[G]? = some r)(T:kindOf r = "copy"):∃n:Nat,jB 2 r=n/\jP [.tup af,.int ae,.int G]=lT ((if eO af ae r G n=true then [((none,(n:Int)):Bs)]else []).map (Hv ("copy" : Str))):=by
 have U:=g r (vL O);obtain⟨a,d,b,n,er⟩:=mC U T;have nr:bj r=false:=mD (by rw[T];decide +kernel);have po:av [r,.str "of"]=sI n:=by rw[er];exact bC (i:=2) cM rfl
 refine⟨n,by rw[er];rfl,?_⟩;let E:DL.Env:=[sT af,sI ae,sI G,sI n];refine aw rfl (kO (.int n) (aL [r,.str "of"] (ce (bR (.tup af) (.int G) rfl rfl (by simp[bG O])) rfl) po) rfl ?_);have M:fN (aV (fA cj (fV 0 (fV 1 (fV 3 aj))))) (aV (fA gz (fV 0 (fV 3 (fV 2 aj))))) E=some (eO af ae r G n):=by
  unfold eO;cases hq:af[n]? with
  |none=>
   have hn:af.length<=n:=List.getElem?_eq_none_iff.mp hq;exact fz (p:=false) (q:=false) (dQ (aL [.tup af,.int ae,.int n] rfl (aw rfl (ay (dc (p:=false) (q:=false) (aL [.tup af,.int ae,.int n] rfl (wv hn ae)) λz=>by cases z))))) λz=>by cases z
  |some q=>
   have c:=g q (vL hq);exact fz (dQ (aL [.tup af,.int ae,.int n] rfl (lr hq c ae))) λh=>by
    rw[vC]at h;exact dQ (aL [.tup af,.int n,.int G] rfl (zQ hq O c U (mD (Qs h.2)) nr))
 cases hv:eO af ae r G n with
 |true=>
  rw[hv]at M;rw[if_pos rfl];exact bw M (ay (aL [.tup [.str "copy",.int n]] (ce (aL [.str "copy",.int n] rfl (cG _ (by simp))) rfl) (fK _ (by simp))))
 |false=>
  rw[hv]at M;rw[if_neg (by decide)];exact aD M (ay (aL [] rfl (fK _ (by simp))))
def pT (af:LD)(ae:Int)(cs:List Cl)(x:D×Nat):List Bs:=if kindOf x.1 = "copy" then (if eO af ae x.1 x.2 (jB 2 x.1).toNat=true then [(none,jB 2 x.1)]else [])else No (au af ae) cs x.1 x.2
section
variable {af:LD}(g:∀r∈af,cq r) (hl:af.length<=30) (ae:Int) (hn:((bW (au af ae)).map (aX 0)).Nodup)
include g hl hn
theorem Kk (cs:List Cl)(T:cs.length<=60){M:Nat}{r:D}(O:af[M]? = some r)(U:kindOf r∈bQ)(hk:ba r<=ae):fH [.tup af,.int ae,.lst (cs.map bM),.int M]=lT ((pT af ae cs (r,M)).map (Hv (Nr r))):=by
 have b:=g r (vL O);unfold pT Nr;by_cases G:kindOf r = "copy"
 ·rw[if_pos G,if_pos G];obtain⟨n,c,e2⟩:=E6 g ae O G;rw[c,toNat_natCast];refine aw rfl (aD (bX (p:=true) (dQ (aL [.tup af,.int ae,.int M] rfl ((zW O b ae).trans (by rw[As hk,As U];rfl))))) (bw (cE (a:=kindOf r) (bb:=false) (Dk O b rfl rfl) (As G)) (ay (aL [.tup af,.int ae,.int M] rfl e2))))
 ·rw[if_neg G,if_neg G];have d:kindOf r∈fx:=by
   have:∀k∈bQ,k ≠ "copy"->k∈fx:=by decide +kernel
   exact this _ U G
  rw[show Hv ("leave" : Str)=Ax from funext E5];exact zU g hl ae hn cs T O d hk
end
def Nt (e:f (gP ρ)=some (d,b))(k:h (ρ.set i (some (d,false)))=r):aA (yp i f) h ρ=r:=ft (ρ':=ρ.set i (some (d,false))) (by simp only[yp,e,map_some]) k
def Dl (e:ρ[i]? = some (some (.dk ks vs,b))):iT i ρ=some (.rt (.dk ks vs) false):=by simp[iT,e]
noncomputable def kN (x:D×Nat):eK:=.inl (x.2:Int)
def ki (af:LD)(ae day:Int)(x:D×Nat):Bool:=(gV af ae x.1 && decide (aS x.1<=day)) && (fZ af ae x.2 x.1 day).isEmpty
def Kl {α:Type}(l:List α)(f:α->D):decide ((((l.map f).length:Nat):Int)=0)=l.isEmpty:=by
 cases l with
 |nil=>rfl
 |cons a l=>rw[uY,vE];exact Qn (by omega)
noncomputable def mE (af:LD)(ae day:Int)(l:KL):KL:=l.filter λx=>decide (kindOf x.1∈bQ) && ki af ae day x
section
variable {af:LD}(g:∀r∈af,cq r) (hl:af.length<=30) (ae:Int) (hn:((bW (au af ae)).map (aX 0)).Nodup)
include g hl hn
theorem Nu (O:(bx (au af ae)).length<=60){G:Nat}{r:D}(M:af[G]? = some r)(a:kindOf r∈bQ)(day:Int):nM [.tup af,.int ae,.lst ((bx (au af ae)).map bM),.int G,.int day]=sO (ki af ae day (r,G)):=by
 have b:=g r (vL M);have nr:bj r=false:=by
  have:∀k∈bQ,decide (k = "root")=false:=by decide +kernel
  exact this _ a
 let E:DL.Env:=[sT af,sI ae,sL ((bx (au af ae)).map bM),sI G,sI day];have d:aV (fA eC (fV 0 (fV 1 (fV 3 aj)))) E=some (gV af ae r):=dQ (aL [.tup af,.int ae,.int G] rfl (sE af (λr M=>(g r M).c.rp) (by omega) ae M));have f:aV (f2 BS (fA bi (ag (f2 bF (am 0) (am 3)) aj)) (am 4)) E=some (decide (day<aS r)):=dQ (bR (.int (aS r)) (.int day) (aL [r] (ce (bR (.tup af) (.int G) rfl rfl (by simp[bG M])) rfl) (sY b nr)) rfl rfl);have T:=fW (bX d) λ_=>f;have e:(!gV af ae r || decide (day<aS r)) = !(gV af ae r && decide (aS r<=day)):=by
  rw[Bool.not_and];congr 1;rw[<-decide_not];congr 1;rw[Int.not_le]
 rw[e]at T;unfold ki;cases U:(gV af ae r && decide (aS r<=day)) with
 |false=>
  rw[U]at T;exact aw rfl (bw T (ay rfl))
 |true=>
  rw[U]at T;refine aw rfl (aD T (ay ?_));rw[Bool.true_and,<-Kl (fZ af ae G r day) λn:Nat=>.int n];exact bR (.int (((fZ af ae G r day).map λn:Nat=>D.int n).length:Nat)) (.int 0) (aL [.lst ((fZ af ae G r day).map λn:Nat=>.int n)] (aQ (aL [.tup af,.int ae,.lst ((bx (au af ae)).map bM),.int G,.int day] rfl (pR g (by omega) ae O hn M day)) rfl) rfl) rfl (by simp)
theorem Hx (k:(bV (au af ae)).length<=60)(day:Int):xF [.tup af,.int ae,.int day]=sF (.dk ((mE af ae day (bV (au af ae))).map kN) ((mE af ae day (bV (au af ae))).map λx=>.lst ((pT af ae (bx (au af ae)) x).map (Hv (Nr x.1))))):=by
 have m:jb af:=⟨by omega,λr T=>(g r T).c⟩;obtain⟨n,M⟩:=wl (af:=af) m ae k;have o:cR [.tup af,.int ae]=lT ((bV (au af ae)).map λx=>.int x.2):=lm m ae;generalize U:bx (au af ae)=cs at n M |-;have G:∀x∈bV (au af ae),x∈au af ae:=λx hx=>(vN ((aZ _ _).mem_iff.mp hx)).1;have p:((bV (au af ae)).map (·.2)).Nodup:=oM (fX af ae);generalize bV (au af ae)=O at k o G p |-;let i:D×Nat->D:=λx=>.lst ((pT af ae cs x).map (Hv (Nr x.1)));let E:KL->OB->DL.Env:=λL a=>[sT af,sI ae,sI day,sL (cs.map bM),some (.dk (L.map kN) (L.map i),true),a];obtain⟨ρ',e,a,rfl⟩:=gI (tg:=dF 5) (g:=z5) (λj ρ=>∃a,ρ=E (mE af ae day (O.take j)) a) (O.map λx=>.int x.2) (E [] none) ⟨none,rfl⟩ (by
  rintro j d ρ hd ⟨a,rfl⟩;rw[vA]at hd;obtain⟨x,hx,rfl⟩:=oY hd;have q:=G x (vL hx);have T:=bc q;have s:ba x.1<=ae:=Qs (vN q).2;have w:=g x.1 (vL T);have t:O.take (j+1)=O.take j++[x]:=by rw[take_add_one,hx];rfl
  have u:mE af ae day (O.take (j+1))=mE af ae day (O.take j)++if(decide (kindOf x.1∈bQ) && ki af ae day x)=true then [x]else []:=by
   unfold mE;rw[t,List.filter_append,filter_cons];split<;>rfl
  have v:x.2∉(mE af ae day (O.take j)).map (·.2):=by
   have h2:((O.take (j+1)).map (·.2)).Nodup:=List.Nodup.sublist (List.Sublist.map _ (take_sublist _ _)) p;rw[t,uW,nodup_append]at h2;intro hm;obtain⟨y,hy,l⟩:=vO hm;exact h2.2.2 _ (uS ⟨y,(vN hy).1,rfl⟩) _ (by simp) l
  have z:(mE af ae day (O.take j)).length<=60:=vR (vM _ _) (vR (List.length_take_le' _ _) k);generalize mE af ae day (O.take j)=L at u v z;let F:DL.Env:=E L (sI x.2);have A:aV (fA eF (fV 0 (fV 1 (fV 5 aj)))) F=some (decide (kindOf x.1∈bQ)):=dQ (aL [.tup af,.int ae,.int x.2] rfl ((zW T w ae).trans (by rw[As s,Bool.true_and])));have B:=fz A λh=>dQ (f:=fA nM (fV 0 (fV 1 (fV 3 (fV 5 (fV 2 aj)))))) (aL [.tup af,.int ae,.lst (cs.map bM),.int x.2,.int day] rfl (by rw[<-U];exact Nu g hl ae hn (by rw[U];exact M) T (Qs h) day));refine⟨F,E (L++if(decide (kindOf x.1∈bQ) && ki af ae day x)=true then [x]else []) (sI x.2),rfl,.inl (PH B (λh=>?_) λh=>?_),sI x.2,by rw[u]⟩
  ·rw[if_pos h];have C:kindOf x.1∈bQ:=by rw[vC]at h;exact Qs h.1
   have H:rE 4 (am 5) (fA fH (fV 0 (fV 1 (fV 3 (fV 5 aj))))) F=some (.nx (F.set 4 (some (.dk (h8 (L.map kN) (kN x)) (fm (L.map kN) (L.map i) (kN x) (i x)),true)))):=by
    have I:fA fH (fV 0 (fV 1 (fV 3 (fV 5 aj)))) (gP F)=some (i x,true):=aL [.tup af,.int ae,.lst (cs.map bM),.int x.2] rfl (Kk g hl ae hn cs M T C s);show((fA fH _ (gP F)).bind _)=_;rw[I];simp only[vJ];exact if_pos (c:=(L.map kN).length<sizeLine) (eA (by rw[vI];omega))
   rw[H];have hk:kN x∉L.map kN:=λhm=>by
    obtain⟨y,hy,l⟩:=vO hm;exact v (uS ⟨y,hy,by have:=Sum.inl.inj (show(Sum.inl (y.2:Int):eK)=Sum.inl (x.2:Int)from l);omega⟩)
   unfold h8 fm;rw[if_neg hk,if_neg hk];simp[F,E]
  ·rw[h,if_neg (by decide),uQ];rfl)
 rw[vI,take_length]at e;exact aw rfl (Nt (aL [.tup af,.int ae] rfl n) (ft (ρ':=E [] none) rfl (ft (hU (ds:=O.map λx=>.int x.2) (by show(fA cR _ _).bind _=_;rw[aL [.tup af,.int ae] rfl o];rfl) e) (Dl (b:=true) rfl))))
end
noncomputable def nK (n:Nat):eK:=.inl (n:Int)
noncomputable def Ih:Nat->D:=λ_=>.bl true
noncomputable def gM (S:LN)(b:Bs):Bool:=b.1.isSome || S.any λn=>decide ((n:Int)=b.2)
noncomputable def cN (S:LN)(p:Nat×List Bs):LN:=if p.2.any (gM S)=true then S++[p.1]else S
noncomputable def iN (l:List (Nat×List Bs)):LN:=l.foldl cN []
theorem zX (n:Int):∀S:LN,(gH (S.map nK) (S.map Ih) (.inl n)).isSome=S.any λm=>decide ((m:Int)=n)
 |[]=>rfl
 |m::S=>by
  rw[uY,uY,gH,any_cons];by_cases h:(m:Int)=n
  ·rw[if_pos (show nK m=.inl n by unfold nK;rw[h]),As h];rfl
  ·rw[if_neg (show ¬nK m=.inl n from λz=>h (Sum.inl.inj z)),Qn h,zX n S];rfl
def Hy (hw:decide (w=("office" : Str))=false)(S:LN)(b:Bs):nN [Hv w b,.dk (S.map nK) (S.map Ih)]=sO (gM S b):=by
 unfold gM;rcases b with⟨_|o,n⟩
 ·refine aw rfl (ay (lS (p:=false) (b1:=false) (bR (.str w) (.str "office") rfl rfl (by simp[of_decide_eq_false hw])) λ_=>bR (.int n) (.dk (S.map nK) (S.map Ih)) rfl rfl ?_));show some (D.bl (gH (S.map nK) (S.map Ih) (.inl n)).isSome,false)=_;rw[zX]
 ·exact aw rfl (ay (lS (p:=true) (q:=S.any λm=>decide ((m:Int)=n)) (b1:=false) (bR (.str "office") (.str "office") rfl rfl (by simp)) λh=>by cases h))
def any_map {α:Type}(l:List α)(f:α->Bool):FN [.lst (l.map λx=>.bl (f x))]=sO (l.any f):=by
 show(tR _).map _=_;rw[rL,map_some,List.any_map];rfl
def zY (h:m∈cN S p):m∈S\/m=p.1:=by
 unfold cN at h;split at h
 ·simpa using h
 ·exact .inl h
theorem oP:∀(l:List (Nat×List Bs))(S:LN)(m:Nat),m∈l.foldl cN S->m∈S\/m∈l.map (·.1)
 |[],_,_,h=>.inl h
 |p::l,S,m,h=>by
  rcases oP l _ m h with h|h
  ·rcases zY h with h|rfl
   ·exact .inl h
   ·exact .inr (by simp)
  ·exact .inr (mZ _ h)
abbrev Rs:=Nat×Str×List Bs
noncomputable def L1 (p:Rs):D:=.lst (p.2.2.map (Hv p.2.1))
noncomputable def Dm (p:Rs):Nat×List Bs:=(p.1,p.2.2)
def Hz (l:List Rs)(hl:l.length<=60)(hw:∀p∈l,decide (p.2.1 = "office")=false)(hb:∀p∈l,p.2.2.length<=100)(hn:(l.map (·.1)).Nodup):xG [.dk (l.map λp=>nK p.1) (l.map L1)]=sF (.dk ((iN (l.map Dm)).map nK) ((iN (l.map Dm)).map Ih)):=by
 let E:LN->OB->OB->DL.Env:=λS G M=>[sF (.dk (l.map λp=>nK p.1) (l.map L1)),some (.dk (S.map nK) (S.map Ih),true),G,M];have tH:mr (l.map λp=>nK p.1) (l.map L1)=l.map λp=>.tup [.int (p.1:Int),L1 p]:=by
  unfold mr;rw[zip_map',uP];rfl
 obtain⟨ρ',e,G,M,rfl⟩:=gI (tg:=DO [2,3]) (g:=z6) (λj ρ=>∃G M,ρ=E (iN ((l.take j).map Dm)) G M) (l.map λp=>.tup [.int (p.1:Int),L1 p]) (E [] none none) ⟨none,none,rfl⟩ (by
  rintro j d ρ hd ⟨G,M,rfl⟩;rw[vA]at hd;obtain⟨p,hp,rfl⟩:=oY hd;have O:=vL hp;have f:l.take (j+1)=l.take j++[p]:=by rw[take_add_one,hp];rfl
  have es:iN ((l.take (j+1)).map Dm)=cN (iN ((l.take j).map Dm)) (Dm p):=by
   rw[f,uW];unfold iN;rw[foldl_append];rfl
  have T:p.1∉iN ((l.take j).map Dm):=λhm=>by
   have h2:((l.take (j+1)).map (·.1)).Nodup:=List.Nodup.sublist (List.Sublist.map _ (take_sublist _ _)) hn;rw[f,uW,nodup_append]at h2;rcases oP _ _ _ hm with h|h
   ·cases h
   ·rw[uP]at h;exact h2.2.2 _ h _ (by simp) rfl
  have i:(iN ((l.take j).map Dm)).length<=60:=by
   have:∀(q:List (Nat×List Bs))(S:LN),(q.foldl cN S).length<=S.length+q.length:=λq=>by
    induction q with
    |nil=>intro S;exact vT _
    |cons a q k=>
     intro S;refine vR (k _) ?_;unfold cN;split
     ·rw[uZ,vE,length_nil,vE];omega
     ·rw[vE];omega
   have h3:=this ((l.take j).map Dm) [];rw[vI,length_take,length_nil]at h3;exact vR h3 (by omega)
  generalize iN ((l.take j).map Dm)=S at es T i;let F:DL.Env:=E S (sI (p.1:Int)) (some (L1 p,false));have hc:=vk (fi:=bK (am 3)) (nT:=1) (cap:=[1]) (tg:=dF 0) (fe:=fA nN (fV 0 (fV 1 aj))) (ρ:=F) p.2.2 (Hv p.2.1) (λb=>.bl (gM S b)) rfl (by have:=hb p O;omega) λb _=>⟨[some (Hv p.2.1 b,false),sF (.dk (S.map nK) (S.map Ih))],rfl,false,aL [Hv p.2.1 b,.dk (S.map nK) (S.map Ih)] rfl (Hy (hw p O) S b)⟩;have m:aV (fA FN (ag (bS (bK (am 3)) 1 [1] (dF 0) gX (fA nN (fV 0 (fV 1 aj)))) aj)) F=some (p.2.2.any (gM S)):=dQ (aL [.lst (p.2.2.map λb=>.bl (gM S b))] (aQ hc rfl) (any_map _ _));refine⟨F,E (cN S (Dm p)) (sI (p.1:Int)) (some (L1 p,false)),rfl,.inl (PH m (λh=>?_) λh=>?_),_,_,by rw[es]⟩
  ·have hk:nK p.1∉S.map nK:=λhm=>by
    obtain⟨y,hy,n⟩:=vO hm;have:=Sum.inl.inj (show(Sum.inl (y:Int):eK)=Sum.inl (p.1:Int)from n);exact T (by rw[show p.1=y by omega];exact hy)
   have U:zi 1 (am 2) (fC (.bl true)) F=some (.nx (F.set 1 (some (.dk (h8 (S.map nK) (nK p.1)) (fm (S.map nK) (S.map Ih) (nK p.1) (.bl true)),true)))):=if_pos (c:=b8 (.bl true)=true/\(S.map nK).length<sizeLine) ⟨rfl,eA (by rw[vI];omega)⟩;rw[U];unfold h8 fm cN;rw[if_neg hk,if_neg hk,if_pos (show(Dm p).2.any (gM S)=true from h)];simp[F,E,Dm,Ih]
  ·unfold cN;rw[if_neg (show ¬(Dm p).2.any (gM S)=true by show ¬p.2.2.any (gM S)=true;rw[h];decide)];rfl)
 rw[vI,take_length]at e;exact aw rfl (ft (ρ':=E [] none none) rfl (ft (hU (ds:=l.map λp=>.tup [.int (p.1:Int),L1 p]) (by show some (mr _ _)=_;rw[tH]) e) (Dl (b:=true) rfl)))
theorem ww:∀S:LN,vh (S.map nK)=some (S.map λ(n:Nat)=>(n:Int))
 |[]=>rfl
 |n::S=>by
  show(vh (S.map nK)).map _=_;rw[ww S];rfl
theorem zZ {α G:Type}(g:α->G)(f:G->LI)(x:α):∀l:List α,o5 f (g x) (l.map g)=(o5 (λa=>f (g a)) x l).map g
 |[]=>rfl
 |y::r=>by
  rw[uY,o5,o5];split
  ·rw[uY,zZ g f x r]
  ·rfl
theorem wx {α G:Type}(g:α->G)(f:G->LI):∀l:List α,dO f (l.map g)=(dO (λa=>f (g a)) l).map g
 |[]=>rfl
 |x::l=>by
  show o5 f (g x) (dO f (l.map g))=(o5 (λa=>f (g a)) x (dO (λa=>f (g a)) l)).map g;rw[wx g f l,zZ]
def HA (n:Int)(S:LN):AE (.int n) (S.map λ(m:Nat)=>D.int (m:Int))=S.any λm=>decide ((m:Int)=n):=by
 unfold AE;induction S with
 |nil=>rfl
 |cons m S G=>
  rw[uY,any_cons,G,any_cons];by_cases h:(m:Int)=n
  ·simp[h]
  ·simp[h,Ne.symm h]
def jC (af:LD)(ae:Int)(x:D×Nat):List Bs:=pT af ae (bx (au af ae)) x
def cS (af:LD)(ae day:Int):LN:=iN ((mE af ae day (bV (au af ae))).map λx=>(x.2,jC af ae x))
def jd (S:LN):LD:=(nj (S.map λ(n:Nat)=>(n:Int))).map .int
def Nv (r:D):decide (Nr r = "office")=false:=by
 unfold Nr;split
 ·decide +kernel
 ·decide +kernel
def E7 (S:LN)(h:S.length<=60):fU [.lst (S.map λ(n:Nat)=>.int (n:Int))]=lT (jd S):=by
 cases S with
 |nil=>rfl
 |cons n S=>
  have h1:ju ((n::S).map λ(n:Nat)=>D.int (n:Int))=none:=rfl;have h2:∀l:LN,jz (l.map λ(n:Nat)=>D.int (n:Int))=some (l.map λ(n:Nat)=>(n:Int)):=λl=>by
   induction l with
   |nil=>rfl
   |cons a l G=>rw[uY,jz,G];rfl
  unfold fU;simp only[h1,h2 (n::S)];rw[if_pos (by rw[vI];omega)];rfl
def xR (h:kindOf r∈bQ):bj r=false:=by
 have:∀k∈bQ,decide (k = "root")=false:=by decide +kernel
 exact this _ h
section
variable {af:LD}(g:∀r∈af,cq r) (hl:af.length<=30) (ae:Int) (hn:((bW (au af ae)).map (aX 0)).Nodup) (ho:(bV (au af ae)).length<=60)
include hl
theorem HB (x:D×Nat):(jC af ae x).length<=60:=by
 unfold jC pT;split
 ·split
  ·exact(by decide:1<=60)
  ·exact uN _
 ·unfold No;rw[(aZ _ _).length_eq];exact Dj hl ae _ _ _
theorem oQ (day:Int):(cS af ae day).length<=60:=by
 have:∀(q:List (Nat×List Bs))(S:LN),(q.foldl cN S).length<=S.length+q.length:=λq=>by
  induction q with
  |nil=>intro S;exact vT _
  |cons a q G=>
   intro S;refine vR (G _) ?_;unfold cN;split
   ·rw[uZ,vE,length_nil,vE];omega
   ·rw[vE];omega
 have h3:=this ((mE af ae day (bV (au af ae))).map λx=>(x.2,jC af ae x)) [];have h4:(bV (au af ae)).length<=30:=by
  unfold bV;rw[(aZ _ _).length_eq];exact vR (vM _ _) (vR (cF af ae) hl)
 have h5:(mE af ae day (bV (au af ae))).length<=30:=vR (vM _ _) h4;rw[vI,length_nil]at h3;exact vR h3 (by omega)
include g hn ho
theorem Aa (day:Int):iI [.tup af,.int ae,.int day]=lT (jd (cS af ae day)):=by
 have G:=Hx g hl ae hn ho day;have h4:(mE af ae day (bV (au af ae))).length<=60:=vR (vM _ _) ho;have es:=Hz ((mE af ae day (bV (au af ae))).map λx=>(x.2,Nr x.1,jC af ae x)) (by rw[vI];exact h4)
  (λp hp=>by obtain⟨x,_,rfl⟩:=vO hp;exact Nv _) (λp hp=>by obtain⟨x,_,rfl⟩:=vO hp;exact vR (HB hl ae x) (by decide))
  (by rw[uP];exact List.Nodup.sublist (List.Sublist.map _ filter_sublist) (oM (fX af ae)))
 rw[uP,uP,uP]at es;refine aw rfl (ay (aL [_] (aQ (aL [_] (aQ (aL [.tup af,.int ae,.int day] rfl G) rfl) es) rfl) ?_));show(vh ((cS af ae day).map nK)).bind _=_;rw[ww,vJ,if_pos (by rw[vI];have:=oQ hl ae day;omega)];rfl
end
def xS (n:Nat)(S:LN):(S.any λm=>decide ((m:Int)=(n:Int)))=decide (n∈S):=by
 rw[Bool.eq_iff_iff,any_eq_true,decide_eq_true_iff];constructor
 ·rintro⟨m,h,e⟩;have:=Qs e;rw[show n=m by omega];exact h
 ·exact λh=>⟨n,h,As rfl⟩
def Ab (h:aH 40 d=true):tO d d=sO false:=by
 unfold tO;rw[if_pos ⟨h,h⟩,sw 40 _ h];rfl
def HC (af:LD)(ae:Int):bW (au af ae)=af.filter λv=>bj v && decide (ba v<=ae):=by
 unfold bW au;rw[List.filter_filter];have:∀(l:List (D×Nat))(q:D->Bool),(l.filter λx=>q x.1).map (·.1)=(l.map (·.1)).filter q:=λl q=>by rw[List.filter_map];rfl
 refine(this af.zipIdx λv=>bj v && decide (ba v<=ae)).trans ?_;rw[List.zipIdx_map_fst]
def HD (af:LD)(ae:Int):((bW (au af ae)).map (aX 0)).Sublist (wn af):=by
 rw[HC];unfold wn;refine List.Sublist.map _ ?_;have:(af.filter λv=>bj v && decide (ba v<=ae))=(af.filter bj).filter λv=>decide (ba v<=ae):=by rw[List.filter_filter];congr 1;funext v;rw[Bool.and_comm]
 rw[this];exact filter_sublist
def lZ (S:LN):LN:=dO (λn:Nat=>[(n:Int)]) S
def xT (S:LN):jd S=(lZ S).map λ(n:Nat)=>.int (n:Int):=by
 unfold jd nj lZ;rw[wx,uP];rfl
def g9 {m:Nat}{S:LN}:m∈lZ S↔m∈S:=(aZ _ _).mem_iff
def PW (q:D)(x:Int×OI)(w:D):Prop:=∃a k d b,∃m:Nat,∃G,(k=("paper" : Str)\/k = "like")/\q=row a k (.int d::.str b::.int m::jS x::w::G)/\(w=.non\/∃s,w=.str s)
def xU (r:D):Prop:=kindOf r=("paper" : Str)\/kindOf r = "like"->∃x w,PW r x w
inductive Pb (af:List D):Nat->Nat->Nat->Prop
 |here (n:Nat) (r:D) (x:Int×Option Int) (w:D) (h:af[n]? = some r) (p:PW r x w):Pb af 0 n n
 |copy (k n m e:Nat) (a d:Int) (b:Str) (h:af[n]? = some (row a ("copy" : Str) [.int d,.str b,.int m])) (p:Pb af k m e):Pb af (k+1) n e
def pend (af:LD):Nat->Nat->Nat
 |0,n=>n
 |k+1,n=>match af[n]? with
  |some r=>if kindOf r = "copy" then pend af k (jB 2 r).toNat else n
  |none=>n
def PW.nocopy (p:PW r x w):¬kindOf r = "copy":=by
 obtain⟨a,k,d,b,m,G,hk,rfl,_⟩:=p;have:∀k:Str,k = "paper" \/ k = "like"->¬k = "copy":=by rintro k (rfl|rfl)<;>decide +kernel
 exact this k hk
def Pb.to (p:Pb af k n e):∃r x w,af[e]? = some r/\PW r x w:=by
 induction p with
 |here n r x w h p=>exact⟨r,x,w,h,p⟩
 |copy k n m e a d b h p G=>exact G
def Pb.pend (p:Pb af k n e):∀f,k<=f->pend af f n=e:=by
 induction p with
 |here n r x w h p=>
  intro f _;cases f with
  |zero=>rfl
  |succ f=>unfold Lw.pend;rw[h];exact if_neg p.nocopy
 |copy k n m e a d b h p G=>
  intro f hf;obtain⟨f,rfl⟩:∃j,f=j+1:=⟨f - 1,by omega⟩;unfold Lw.pend;rw[h];exact(if_pos rfl).trans (G f (by omega))
def SI (af:LD)(ae:Int)(S:LN):Prop:=∀n∈S,∃r,af[n]? = some r/\ba r<=ae/\kindOf r∈bQ/\(kindOf r∈bN->∃k e,k<=S.length/\Pb af k n e)
section
variable {af:LD}(g:∀r∈af,cq r) (gw:∀r∈af,xU r) (ae:Int)
include g gw
theorem Km {S:LN}(s:SI af ae S){x:D×Nat}(hx:af[x.2]? = some x.1)(hk:ba x.1<=ae)(hb:kindOf x.1∈bQ):SI af ae (cN S (x.2,jC af ae x)):=by
 unfold cN;split
 ·rename_i hs;intro n hn;rcases mem_append.mp hn with hn|hn
  ·obtain⟨r,h1,h2,h3,h4⟩:=s n hn;exact⟨r,h1,h2,h3,λhp=>by obtain⟨k,e,h5,G⟩:=h4 hp;exact⟨k,e,by rw[uZ];omega,G⟩⟩
  ·cases uT hn
   refine⟨x.1,hx,hk,hb,λhp=>?_⟩;by_cases M:kindOf x.1 = "copy"
   ·obtain⟨a,d,b,m,er⟩:=mC (g _ (vL hx)) M;have hm:jB 2 x.1=m:=by rw[er];rfl
    unfold jC pT at hs;rw[if_pos M,hm,toNat_natCast]at hs;cases hv:eO af ae x.1 x.2 m with
    |false=>rw[hv]at hs;cases hs
    |true=>
     rw[hv,if_pos rfl]at hs;have O:m∈S:=by
      have T:(S.any λn=>decide ((n:Int)=(m:Int)))=true:=by simpa [gM]using hs
      rw[xS]at T;exact Qs T
     obtain⟨q,h1,h2,h3,h4⟩:=s m O;unfold eO at hv;rw[h1]at hv;obtain⟨k,e,h5,G⟩:=h4 (by
      have:=(vC _ _ ▸ hv).1;exact Qs (vC _ _ ▸ this).2)
     exact⟨k+1,e,by rw[uZ,length_singleton];omega,.copy k _ m e a d b (by rw[hx,<-er]) G⟩
   ·obtain⟨y,w,p⟩:=gw _ (vL hx) (by
     have:∀k∈bN,k ≠ "copy"->k = "paper" \/ k = "like":=by decide +kernel
     exact this _ hp M)
    exact⟨0,x.2,uN _,.here _ _ _ _ hx p⟩
 ·exact s
theorem Dn:∀(l:KL)(S:LN),(∀x∈l,af[x.2]? = some x.1/\ba x.1<=ae/\kindOf x.1∈bQ)->SI af ae S->SI af ae ((l.map λx=>(x.2,jC af ae x)).foldl cN S)
 |[],_,_,s=>s
 |x::l,S,h,s=>by
  obtain⟨h1,h2,h3⟩:=h x (mX ..);exact Dn l _ (λy hy=>h y (mZ _ hy)) (Km g gw ae s h1 h2 h3)
theorem Ac (day:Int):SI af ae (cS af ae day):=by
 refine Dn g gw ae _ [] (λx hx=>?_) (λn hn=>nomatch hn);obtain⟨h1,h2⟩:=vN hx;have h3:x∈au af ae:=(vN ((aZ _ _).mem_iff.mp h1)).1;exact⟨bc h3,Qs (vN h3).2,Qs (vC _ _ ▸ h2).1⟩
end
def Pb.at_ (p:Pb af k n e):∃r,af[n]? = some r:=by
 cases p with
 |here n r x w h p=>exact⟨_,h⟩
 |copy k n m e a d b h p=>exact⟨_,h⟩
def PW.word (p:PW r x w):a9 [r]=sS (kindOf r):=by
 obtain⟨a,k,d,b,m,G,hk,rfl,_⟩:=p;exact cb _ _ _
def PW.str (p:PW r x w):av [r,.str "stretch"]=some (jS x,false):=by
 obtain⟨a,k,d,b,m,G,hk,rfl,_⟩:=p;exact bC (i:=3) (by rcases hk with rfl|rfl<;>exact cM) rfl
def PW.whom (p:PW r x w):av [r,.str "whom"]=some (w,false):=by
 obtain⟨a,k,d,b,m,G,hk,rfl,_⟩:=p;exact bC (i:=4) (by rcases hk with rfl|rfl<;>exact cM) rfl
def PW.box (p:PW r x w):F0 r=false:=by
 obtain⟨a,k,d,b,m,G,hk,rfl,_⟩:=p;rfl
def PW.st (p:PW r x w):fY r=x:=by
 obtain⟨a,k,d,b,m,G,hk,rfl,_⟩:=p;unfold fY;have:∀k:Str,k = "paper" \/ k = "like"->¬k = "leave":=by rintro k (rfl|rfl)<;>decide +kernel
 rw[fw,if_neg (this k hk)];exact qx rfl
noncomputable abbrev bE (af:LD)(n0:Nat)(r:D):DL.Env:=[sT af,sI n0,some (r,false)]
section
variable {af:LD}(g:∀r∈af,cq r)
include g
theorem Nw {k n e:Nat}(p:Pb af k n e)(n0:Nat):∀(r:D)(fuel:Nat),af[n]? = some r->k<fuel->∃q,af[e]? = some q/\dr (aV (f2 dw (fA a9 (fV 2 aj)) (fS "copy"))) gT fuel (bE af n0 r)=some (.nx (bE af n0 q)):=by
 induction p with
 |here n q x w h p=>
  intro r fuel G hf;obtain⟨fuel,rfl⟩:∃j,fuel=j+1:=⟨fuel - 1,by omega⟩;cases h.symm.trans G
  refine⟨q,h,?_⟩;rw[dr,cE (a:=kindOf q) (bb:=false) (x:=false) (aL [q] rfl p.word) (Qn p.nocopy)]
 |copy k n m e a d b h p O=>
  intro r fuel G hf;obtain⟨fuel,rfl⟩:∃j,fuel=j+1:=⟨fuel - 1,by omega⟩;cases h.symm.trans G
  obtain⟨M,h2⟩:=p.at_;obtain⟨q,h3,h4⟩:=O M fuel h2 (by omega);refine⟨q,h3,?_⟩;have T:f2 bF (am 0) (fA av (fV 2 (ag (fS "of") aj))) (bE af n0 (row a ("copy" : Str) [.int d,.str b,.int m]))=some (M,false):=bR (.tup af) (.int m) rfl (aL [row a ("copy" : Str) [.int d,.str b,.int m],.str "of"] rfl (bC (i:=2) cM rfl)) (by simp[bG h2]);have U:gT (bE af n0 (row a ("copy" : Str) [.int d,.str b,.int m]))=some (.nx (bE af n0 M)):=kL T (g _ (vL h2)).flat;rw[dr,cE (a:="copy") (bb:=false) (x:=true) (aL [row a ("copy" : Str) [.int d,.str b,.int m]] rfl (cb _ _ _)) (As rfl)];dsimp only;rw[U];exact h4
theorem E8 {k n e:Nat}(p:Pb af k n e)(hk:k<=60):∃q x w,af[e]? = some q/\PW q x w/\dh [.tup af,.int n]=some (q,false):=by
 obtain⟨r,G⟩:=p.at_;obtain⟨q,hq,O⟩:=Nw g p n r 1000 G (by omega);obtain⟨T,x,w,h,M⟩:=p.to;cases h.symm.trans hq
 exact⟨q,x,w,hq,M,aw rfl (kO r (bR (.tup af) (.int n) rfl rfl (by simp[bG G])) (g _ (vL G)).flat (ft O (qp rfl M.box)))⟩
end
def E9 (af:LD)(n:Nat):Bool:=match af[n]? with
 |some r=>decide (kindOf r∈bN)
 |none=>false
def Nx (af:LD)(n:Nat):Int×OI:=fY (af.getD (pend af 60 n) .non)
def je (af:LD)(ae day:Int):LN:=((lZ (cS af ae day)).filter (E9 af)).filter λn=>wt day (Nx af n)
def tm (n:Nat)(S:LN):da (.int n) (.lst (S.map λ(m:Nat)=>.int (m:Int)))=sO (!decide (n∈S)):=by
 have G:(S.map λ(n:Nat)=>D.int (n:Int)).all fQ=true:=by
  rw[all_eq_true];intro d hd;obtain⟨m,_,rfl⟩:=vO hd;rfl
 simp only[da,gd,vJ];rw[if_pos ⟨rfl,G⟩,HA,xS]
section
variable {af:LD}(g:∀r∈af,cq r) (gw:∀r∈af,xU r) (hl:af.length<=30) (ae:Int) (hn:((bW (au af ae)).map (aX 0)).Nodup) (ho:(bV (au af ae)).length<=60)
include g gw hl
theorem tq {day:Int}{n:Nat}(h:n∈cS af ae day)(hp:E9 af n=true):∃q x w e k,k<=60/\Pb af k n e/\af[e]? = some q/\PW q x w/\dh [.tup af,.int n]=some (q,false)/\Nx af n=x:=by
 obtain⟨r,h1,h2,h3,h4⟩:=Ac g gw ae day n h;unfold E9 at hp;rw[h1]at hp;obtain⟨k,e,h5,G⟩:=h4 (Qs hp);have M:=oQ hl ae day;obtain⟨q,x,w,hq,O,T⟩:=E8 g G (vR h5 M);refine⟨q,x,w,e,k,vR h5 M,G,hq,O,T,?_⟩;unfold Nx;rw[G.pend 60 (vR h5 M),vF,hq];exact O.st
include hn ho
theorem B1 (day:Int):lF [.tup af,.int ae,.int day]=lT ((je af ae day).map λ(n:Nat)=>.int (n:Int)):=by
 have G:=oQ hl ae day;have hs:(lZ (cS af ae day)).length<=60:=by unfold lZ;rw[(aZ _ _).length_eq];exact G
 have h1:=gf (fi:=bK (fA iI (fV 0 (fV 1 (fV 2 aj))))) (nT:=1) (cap:=[0,1]) (tg:=dF 0) (c:=aV (fA cj (fV 1 (fV 2 (fV 0 aj))))) (fe:=am 0)
  (ρ:=[sT af,sI ae,sI day,none]) (lZ (cS af ae day)) (λ(n:Nat)=>.int (n:Int)) (E9 af) (λ(n:Nat)=>.int (n:Int))
  (by show(fA iI _ _).bind _=_;rw[aL [.tup af,.int ae,.int day] rfl (Aa g hl ae hn ho day),xT];rfl) (by omega) λx hx=>by
   obtain⟨r,h1,h2,h3,h4⟩:=Ac g gw ae day x (g9.mp hx);have:=lr h1 (g _ (vL h1)) ae;rw[As h2,Bool.true_and]at this;have e:E9 af x=decide (kindOf r∈bN):=by unfold E9;rw[h1]
   rw[<-e]at this;exact⟨_,rfl,dQ (aL [.tup af,.int ae,.int x] rfl this),λ_=>⟨false,rfl⟩⟩
 have M:bB (((lZ (cS af ae day)).filter (E9 af)).map λ(n:Nat)=>D.int (n:Int))=true:=c7 λd hd=>by obtain⟨x,_,rfl⟩:=vO hd;rfl
 refine aw rfl (dq h1 M (ay ?_));refine gf (fi:=bK (am 3)) (nT:=1) (cap:=[2,0]) (tg:=dF 0) (c:=aV (fA gu (fV 1 (ag (fA av (ag (fA dh (fV 2 (fV 0 aj))) (ag (fS "stretch") aj))) aj)))) (fe:=am 0)
  (ρ:=[sT af,sI ae,sI day,lT (((lZ (cS af ae day)).filter (E9 af)).map λ(n:Nat)=>.int (n:Int))]) ((lZ (cS af ae day)).filter (E9 af)) (λ(n:Nat)=>.int (n:Int)) (λn=>wt day (Nx af n)) (λ(n:Nat)=>.int (n:Int)) (by simp) (vR (vM _ _) (by omega)) λn hn=>?_
 obtain⟨h2,h3⟩:=vN hn;obtain⟨q,x,w,e,k,hk,U,hq,O,T,e2⟩:=tq g gw hl ae (g9.mp h2) h3;refine⟨[sI n,sI day,sT af],rfl,dQ (aL [.int day,jS x] (ce rfl (ce (aL [q,.str "stretch"] (ce (aL [.tup af,.int n] rfl T) rfl) O.str) rfl)) ?_),λ_=>⟨false,rfl⟩⟩;rw[e2];exact xM _ _ _
end
def HE {S T:LN}(h:∀m∈S,m∈T)(b:Bs)(k:gM S b=true):gM T b=true:=by
 unfold gM at k |-;rw[or_eq_true,any_eq_true]at k |-;exact k.imp id λ⟨n,hn,e⟩=>⟨n,h n hn,e⟩
def Dp (h:m∈S):m∈cN S p:=by
 unfold cN;split
 ·exact mem_append_left _ h
 ·exact h
theorem xV:∀(q:List (Nat×List Bs))(S:LN),m∈S->m∈q.foldl cN S
 |[],_,h=>h
 |_::q,_,h=>xV q _ (Dp h)
theorem tu:∀(l:List (Nat×List Bs))(S:LN)(n:Nat),n∈l.foldl cN S->n∈S\/∃p∈l,p.1=n/\p.2.any (gM (l.foldl cN S))=true
 |[],S,n,h=>.inl h
 |p::l,S,n,h=>by
  rw[foldl_cons]at h |-;rcases tu l (cN S p) n h with z|⟨G,hp,e,k⟩
  ·by_cases hs:n∈S
   ·exact .inl hs
   ·unfold cN at z;split at z
    ·rename_i hb;rcases mem_append.mp z with q|q
     ·exact absurd q hs
     ·obtain⟨b,h1,h2⟩:=any_eq_true.mp hb;exact .inr ⟨p,mX,(uT q).symm,any_eq_true.mpr ⟨b,h1,HE (λm hm=>xV l _ (Dp hm)) b h2⟩⟩
    ·exact absurd z hs
  ·exact .inr ⟨G,mZ _ hp,e,k⟩
section
variable {af:LD}{ae:Int}
def Ad (K:KL):(bV K).Pairwise λa b=>eN b a=false:=(ee _ _).imp λ{a b} h=>by
 have:=qi _ _ _ (Bp b a);rw[Qn (show ¬c8 (kA b)<c8 (kA a)from h)]at this;exact this
def Kn {day:Int}{n m:Nat}{r q:D}(d:(r,n)∈au af ae)(b:kindOf r∈bQ)(hf:ki af ae day (r,n)=true)(c:n∉cS af ae day)(hb:((none,(m:Int)):Bs)∈jC af ae (r,n))(hq:af[m]? = some q)(T:eN (q,m) (r,n)=true):m∉cS af ae day:=λhm=>by
 have U:(r,n)∈bV (au af ae):=(aZ _ _).mem_iff.mpr (mem_filter.mpr ⟨d,by rw[xR b];rfl⟩);have g:(r,n)∈mE af ae day (bV (au af ae)):=mem_filter.mpr ⟨U,by rw[As b,hf];rfl⟩;obtain⟨l1,l2,a⟩:=List.append_of_mem g;have G:=(Ad (au af ae)).sublist (filter_sublist (l:=bV (au af ae)) (p:=λx=>decide (kindOf x.1∈bQ) && ki af ae day x));rw[show(bV (au af ae)).filter (λx=>decide (kindOf x.1∈bQ) && ki af ae day x)=l1++(r,n)::l2 from a]at G;have M:∀x∈l2,eN x (r,n)=false:=(pairwise_cons.mp (List.pairwise_append.mp G).2.1).1;let f:D×Nat->Nat×List Bs:=λx=>(x.2,jC af ae x);have e:cS af ae day=(l2.map f).foldl cN (cN ((l1.map f).foldl cN []) (f (r,n))):=by
  unfold cS iN;rw[a,uW,foldl_append];rfl
 have O:∀x∈l1++(r,n)::l2,af[x.2]? = some x.1:=λx hx=>by
  rw[<-a]at hx;exact bc (vN ((aZ _ _).mem_iff.mp (vN hx).1)).1
 have h:m∈(l1.map f).foldl cN []:=by
  rw[e]at hm;rcases oP _ _ _ hm with z|z
  ·rcases zY z with z|z
   ·exact z
   ·have i:m=n:=z;subst i;exact absurd (e ▸ hm) c
  ·obtain⟨p,hp,rfl⟩:=vO z;obtain⟨x,hx,rfl⟩:=vO hp;have h1:=O x (mY _ (mZ _ hx));have h2:af[x.2]? = some q:=hq;rw[h1]at h2;have h3:=M x hx;rw[show x=(q,x.2) by rw[<-vK h2]]at h3;rw[show eN (q,x.2) (r,n)=true from T]at h3;cases h3
 have j:n∈cN ((l1.map f).foldl cN []) (f (r,n)):=by
  unfold cN;rw[if_pos (any_eq_true.mpr ⟨_,hb,by
   unfold gM;rw[or_eq_true];exact .inr (any_eq_true.mpr ⟨m,h,As rfl⟩)⟩)]
  exact mY _ (mem_singleton.mpr rfl)
 exact c (e ▸ xV _ _ j)
def B2 (day:Int){n m:Nat}{r:D}{a d:Int}{b:Str}(O:(r,n)∈au af ae)(er:r=row a ("copy" : Str) [.int d,.str b,.int m]):n∈cS af ae day↔ki af ae day (r,n)=true/\eO af ae r n m=true/\m∈cS af ae day:=by
 have T:kindOf r = "copy":=by rw[er];rfl
 have c:kindOf r∈bQ:=by rw[T];decide +kernel
 have hm:jB 2 r=m:=by rw[er];rfl
 have M:jC af ae (r,n)=if eO af ae r n m=true then [(none,(m:Int))]else []:=by
  unfold jC pT;rw[if_pos T,hm,toNat_natCast]
 constructor
 ·intro h;rcases tu _ _ _ h with z|⟨p,hp,e,hb⟩
  ·cases z
  obtain⟨x,hx,rfl⟩:=vO hp;obtain⟨h1,h2⟩:=vN hx;have h3:x∈au af ae:=(vN ((aZ _ _).mem_iff.mp h1)).1;have ex:x=(r,n):=xL h3 O e;subst ex;have hf:=(vC _ _ ▸ h2).2;have hb:(jC af ae (r,n)).any (gM (cS af ae day))=true:=hb;rw[M]at hb;cases hv:eO af ae r n m with
  |false=>rw[hv]at hb;cases hb
  |true=>
   rw[hv,if_pos rfl]at hb;have U:((cS af ae day).any λn=>decide ((n:Int)=(m:Int)))=true:=by simpa [gM]using hb
   rw[xS]at U;exact⟨hf,rfl,Qs U⟩
 ·rintro⟨hf,hv,f⟩;by_cases h:n∈cS af ae day
  ·exact h
  ·have G:=hv;unfold eO at G;cases hq:af[m]? with
   |none=>rw[hq]at G;cases G
   |some q=>
    rw[hq]at G;exact absurd f (Kn O c hf h (by rw[M,if_pos hv];exact mem_singleton.mpr rfl) hq (vC _ _ ▸ G).2)
end
def PN (w:D):Prop:=w=.non\/∃s,w=.str s
noncomputable def B3:D->D->Bool
 |.str s,.str t=>decide (s=t)
 |_,_=>true
def Ny {w p:D}(hw:PN w)(hp:PN p){f h:FE}{ρ:DL.Env}{b:Bool}(G:f ρ=some (p,b))(e2:h ρ=some (w,false)):EM (f2 y7 f (fC .non)) (f2 AF h (fA bo (ag (fC .non) (ag f aj)))) ρ=sO (B3 w p):=by
 have M:fA bo (ag (fC .non) (ag f aj)) ρ=sT [.non,p]:=aL [.non,p] (ce rfl (aQ G rfl)) (cG _ (by simp));rcases hp with rfl|⟨s,rfl⟩
 ·refine(lS (p:=true) (q:=true) (b1:=false) (c9 G rfl (by simp[qM])) λz=>by cases z).trans ?_;rcases hw with rfl|⟨t,rfl⟩<;>rfl
 ·refine(lS (p:=false) (q:=B3 w (.str s)) (b1:=false) (c9 G rfl (by simp[qM])) λ_=>bR w (.tup [.non,.str s]) e2 M ?_).trans ?_
  ·rcases hw with rfl|⟨t,rfl⟩
   ·rfl
   ·have:AE (.str t) [.non,.str s]=decide (t=s):=by
     show(cV .non (.str t) || (cV (.str s) (.str t) || false))=_;rw[ph,Bool.or_false];by_cases e:t=s
     ·rw[As e,As e.symm];rfl
     ·rw[Qn e,Qn λz=>e z.symm];rfl
    simp only[AF,gd,vJ];rw[if_pos ⟨rfl,rfl⟩,this];rfl
  ·rfl
noncomputable def Uq:D->D
 |.tup [_,.tup (_::ax)]=>ax.getD 4 .non
 |_=>.non
def ER (af:LD)(n:Nat):D:=Uq (af.getD (pend af 60 n) .non)
def PW.wh (p:PW r x w):Uq r=w:=by
 obtain⟨a,k,d,b,m,G,hk,rfl,_⟩:=p;rfl
section
variable {af:LD}(g:∀r∈af,cq r) (gw:∀r∈af,xU r) (hl:af.length<=30) (ae:Int) (hn:((bW (au af ae)).map (aX 0)).Nodup) (ho:(bV (au af ae)).length<=60)
include g gw hl
theorem Ko {day:Int}{n:Nat}(h:n∈je af ae day):PN (ER af n)/\lG [.tup af,.int n]=some (ER af n,false):=by
 obtain⟨h1,h2⟩:=vN (vN h).1;obtain⟨q,x,w,e,k,hk,M,hq,G,O,e2⟩:=tq g gw hl ae (g9.mp h1) h2;have T:ER af n=w:=by
  unfold ER;rw[M.pend 60 hk,vF,hq];exact G.wh
 rw[T];refine⟨?_,aw rfl (ay (aL [q,.str "whom"] (ce (aL [.tup af,.int n] rfl O) rfl) G.whom))⟩;obtain⟨_,_,_,_,_,_,_,_,hw⟩:=G;exact hw
include hn ho
theorem Ae (day:Int)(n:Nat){G:D}(hp:PN G):qt [.tup af,.int ae,.int day,.int n,G]=sO (decide (n∈je af ae day) && B3 (ER af n) G):=by
 have M:aV (f2 da (am 3) (fA lF (fV 0 (fV 1 (fV 2 aj))))) [sT af,sI ae,sI day,sI n,some (G,false)]=some (!decide (n∈je af ae day)):=dB (b:=false) (c9 (x:=.int n) (b1:=false) (b2:=true) rfl (aL [.tup af,.int ae,.int day] rfl (B1 g gw hl ae hn ho day)) (tm n _));by_cases hv:n∈je af ae day
 ·rw[As hv]at M |-;obtain⟨h1,h2⟩:=Ko g gw hl ae hv;exact aw rfl (aD M (ay (Ny h1 hp (f:=am 4) (h:=fA lG (fV 0 (fV 3 aj))) (b:=false) rfl (aL [.tup af,.int n] rfl h2))))
 ·rw[Qn hv]at M |-;exact aw rfl (bw M (ay rfl))
omit hn ho in
theorem EA (day:Int){n m:Nat}{r:D}{a d:Int}{b:Str}(f:(r,n)∈au af ae)(er:r=row a ("copy" : Str) [.int d,.str b,.int m])(M:D):(decide (n∈je af ae day) && B3 (ER af n) M)=(ki af ae day (r,n) && (eO af ae r n m && (decide (m∈je af ae day) && B3 (ER af m) M))):=by
 have G:=bc f;have O:=B2 day f er;have T:E9 af n=true:=by
  unfold E9;rw[G];show decide (kindOf r∈bN)=true;rw[er];exact(by decide +kernel:decide (("copy" : Str)∈bN)=true)
 by_cases U:n∈cS af ae day
 ·obtain⟨hf,hv,hm⟩:=O.mp U;obtain⟨q,x,w,e,k,hk,i,hq,s,t,e2⟩:=tq g gw hl ae U T;have l:∃k',k=k'+1/\Pb af k' m e:=by
   cases i with
   |here _ u v y h p=>
    cases h.symm.trans G
    exact absurd (by rw[er];rfl) p.nocopy
   |copy k' _ A _ B d' C h p=>
    have:=h.symm.trans G;rw[er]at this;cases this
    exact⟨k',rfl,p⟩
  obtain⟨k',rfl,pm⟩:=l;have en:pend af 60 n=e:=i.pend 60 hk;have j:pend af 60 m=e:=pm.pend 60 (by omega);have h1:Nx af n=Nx af m:=by unfold Nx;rw[en,j]
  have h2:ER af n=ER af m:=by unfold ER;rw[en,j]
  have o:E9 af m=true:=by
   unfold eO at hv;unfold E9;cases c:af[m]? with
   |none=>rw[c]at hv;cases hv
   |some q=>
    rw[c]at hv;have:=(vC _ _ ▸ hv).1;exact(vC _ _ ▸ this).2
  have h3:decide (n∈je af ae day)=decide (m∈je af ae day):=by
   refine decide_eq_decide.mpr ?_;unfold je;rw[mem_filter,mem_filter,mem_filter,mem_filter,g9,g9,h1];exact⟨λz=>⟨⟨hm,o⟩,z.2⟩,λz=>⟨⟨U,T⟩,z.2⟩⟩
  rw[hf,hv,h3,h2];rfl
 ·have h0:n∉je af ae day:=λz=>U (g9.mp (vN (vN z).1).1);rw[Qn h0,Bool.false_and];cases hf:ki af ae day (r,n) with
  |false=>rfl
  |true=>
   cases hv:eO af ae r n m with
   |false=>rfl
   |true=>
    have:m∉je af ae day:=λz=>U (O.mpr ⟨hf,hv,g9.mp (vN (vN z).1).1⟩);rw[Qn this];rfl
end
theorem t6:∀xs:LI,jz (xs.map .int)=some xs
 |[]=>rfl
 |x::xs=>by
  show(jz (xs.map .int)).map (x :: ·)=_;rw[t6 xs];rfl
def cU (af:LD)(ae:Int):LI:=(bV (au af ae)).map λx=>(x.2:Int)
def ls {af:LD}{ae:Int}{x:D×Nat}(h:x∈bV (au af ae)):x∈au af ae/\bj x.1=false:=by
 obtain⟨h1,h2⟩:=vN ((aZ _ _).mem_iff.mp h);exact⟨h1,by simpa using h2⟩
def HF {af:LD}{ae:Int}{x:D×Nat}(h:x∈bV (au af ae)):∃hi:(cU af ae).findIdx (· == (x.2:Int))<(bV (au af ae)).length,(bV (au af ae))[(cU af ae).findIdx (· == (x.2:Int))]=x:=by
 have G:(cU af ae).findIdx (· == (x.2:Int))<(cU af ae).length:=List.findIdx_lt_length_of_exists ⟨(x.2:Int),uS ⟨x,h,rfl⟩,by simp⟩;have hl:(cU af ae).length=(bV (au af ae)).length:=by unfold cU;rw[vI]
 have he:=List.findIdx_getElem (w:=G);refine⟨by omega,xL (ls (getElem_mem _)).1 (ls h).1 ?_⟩;have e2:(cU af ae)[(cU af ae).findIdx (· == (x.2:Int))]'G=(((bV (au af ae))[(cU af ae).findIdx (· == (x.2:Int))]'(by omega)).2:Int):=getElem_map ..;rw[e2]at he;have:=eq_of_beq he;omega
def PQ {af:LD}{ae:Int}{x y:D×Nat}(hx:x∈bV (au af ae))(hy:y∈bV (au af ae)):(cU af ae).findIdx (· == (x.2:Int))<(cU af ae).findIdx (· == (y.2:Int))↔eN x y=true:=by
 obtain⟨hi,ei⟩:=HF hx;obtain⟨hj,M⟩:=HF hy;have hp:=List.pairwise_iff_getElem.mp (Ad (au af ae));constructor
 ·intro h;have h1:=hp _ _ hi hj h;rw[ei,M]at h1;have O:x.2≠y.2:=λz=>by rw[z]at h;omega
  unfold eN at h1 |-;have h1:=of_decide_eq_false h1;exact As (by omega)
 ·intro h;have G:eN y x=false:=by
   unfold eN at h |-;have h:=Qs h;exact Qn (by omega)
  rcases Nat.lt_trichotomy ((cU af ae).findIdx (· == (x.2:Int))) ((cU af ae).findIdx (· == (y.2:Int)))with z|z|z
  ·exact z
  ·have:x=y:=by rw[<-ei,<-M];congr 1
   subst this;rw[h]at G;cases G
  ·have h1:=hp _ _ hj hi z;rw[ei,M,h]at h1;cases h1
def Af {af:LD}{ae:Int}{x:D×Nat}(hx:x∈bV (au af ae)):fG (.lst ((cU af ae).map .int)) (.int (x.2:Int))=sI ((cU af ae).findIdx (· == (x.2:Int)):Nat):=by
 obtain⟨hi,_⟩:=HF hx;have hl:(cU af ae).length=(bV (au af ae)).length:=by unfold cU;rw[vI]
 simp only[fG,t6,vJ];rw[if_pos (by omega)]
def B4 (n:Int)(xs:LI):da (.int n) (.lst (xs.map .int))=sO (!decide (n∈xs)):=by
 have G:(xs.map D.int).all fQ=true:=by
  rw[all_eq_true];intro d hd;obtain⟨m,_,rfl⟩:=vO hd;rfl
 have M:AE (.int n) (xs.map .int)=decide (n∈xs):=by
  clear G;induction xs with
  |nil=>rfl
  |cons x xs O=>
   have:AE (.int n) ((x::xs).map .int)=(cV (.int x) (.int n) || AE (.int n) (xs.map .int)):=rfl;rw[this,O];by_cases e:x=n
   ·simp[e]
   ·have T:¬n=x:=λz=>e z.symm;simp[e,T]
 simp only[da,gd,vJ];rw[if_pos ⟨rfl,G⟩,M]
section
variable {af:LD}(g:∀r∈af,cq r) (gw:∀r∈af,xU r) (hl:af.length<=30) (ae:Int) (hn:((bW (au af ae)).map (aX 0)).Nodup) (ho:(bV (au af ae)).length<=60)
include g gw hl hn ho
theorem HG {G:Nat}{r:D}(M:af[G]? = some r)(day:Int):qu [.tup af,.int ae,.int G,.int day]=lT ((fZ af ae G r day).map λn:Nat=>.int n):=by
 obtain⟨T,O⟩:=wl (af:=af) ⟨by omega,λr M=>(g r M).c⟩ ae ho;exact aw rfl (ay (aL [.tup af,.int ae,.lst ((bx (au af ae)).map bM),.int G,.int day] (ce rfl (ce rfl (aQ (aL [.tup af,.int ae] rfl T) (ce rfl (ce rfl rfl))))) (pR g (by omega) ae O hn M day)))
theorem Nz (day:Int){n m:Nat}{r:D}{a d:Int}{b:Str}(e:(r,n)∈bV (au af ae))(er:r=row a ("copy" : Str) [.int d,.str b,.int m]){G:D}(hp:PN G):qw [.tup af,.int ae,.int day,.int n,G,.lst ((cU af ae).map .int)]=sO (ki af ae day (r,n) && (eO af ae r n m && (decide (m∈je af ae day) && B3 (ER af m) G))):=by
 have O:=bc (ls e).1;have hd:aS r=d:=by rw[er];rfl
 obtain⟨dd,U⟩:∃dd:D,dd=.tup [.str "copy",.int d,.str b,.int m]:=⟨_,rfl⟩;let E:DL.Env:=[sT af,sI ae,sI day,sI n,some (G,false),sL ((cU af ae).map .int),some (dd,false)];have A:f2 bF (f2 bF (am 0) (am 3)) (fI 1) [sT af,sI ae,sI day,sI n,some (G,false),sL ((cU af ae).map .int),none]=some (dd,false):=bR r (.int 1) (bR (.tup af) (.int n) rfl rfl (by simp[bG O])) rfl (by rw[er,U];simp[row,Bn]);have j:cx 6 3 E=sI (m:Int):=bR dd (.int 3) rfl rfl (by rw[U];simp[Si]);have l:fO (aV (f2 BS (cx 6 1) (am 2))) (cm (aV (fA eC (fV 0 (fV 1 (fV 3 aj)))))) E=some (!(gV af ae r && decide (aS r<=day))):=by
  refine(fW (p:=decide (day<d)) (q:=!gV af ae r) (dQ (bR (.int d) (.int day) (bR dd (.int 1) rfl rfl (by rw[U];simp[Bn])) rfl rfl)) λ_=>bX (dQ (aL [.tup af,.int ae,.int n] rfl (sE af (λr e=>(g r e).c.rp) (by omega) ae O)))).trans ?_;rw[hd];by_cases h:d<=day
  ·rw[As h,Qn (by omega),Bool.and_true];rfl
  ·rw[Qn h,As (by omega),Bool.and_false];rfl
 have pre:∀ {T:FS}{res:Option Res},T E=res->aA (br 6 (f2 bF (f2 bF (am 0) (am 3)) (fI 1))) T [sT af,sI ae,sI day,sI n,some (G,false),sL ((cU af ae).map .int),none]=res:=λ{T res} hT=>kO dd A (by rw[U];rfl) hT;cases f:(gV af ae r && decide (aS r<=day)) with
 |false=>
  have hf:ki af ae day (r,n)=false:=by unfold ki;rw[f];rfl
  rw[hf];exact aw rfl (pre (bw (l.trans (by rw[f];rfl)) (ay rfl)))
 |true=>
  have B:=HG g gw hl ae hn ho O day;have u:aV (f2 BS (fA dJ (ag (fA qu (fV 0 (fV 1 (fV 3 (fV 2 aj))))) aj)) (fI 0)) E=some (!(fZ af ae n r day).isEmpty):=by
   refine dQ (bR (.int (((fZ af ae n r day).map λn:Nat=>D.int n).length:Nat)) (.int 0) (aL [.lst ((fZ af ae n r day).map λn:Nat=>.int n)] (aQ (aL [.tup af,.int ae,.int n,.int day] rfl B) rfl) rfl) rfl ?_);show some (D.bl (decide ((0:Int)<(((fZ af ae n r day).map λn:Nat=>D.int n).length:Nat))),false)=_;cases fZ af ae n r day with
   |nil=>rfl
   |cons c cs=>rw[As (by simp)];rfl
  cases k:(fZ af ae n r day).isEmpty with
  |false=>
   have hf:ki af ae day (r,n)=false:=by unfold ki;rw[k,Bool.and_false]
   rw[hf];exact aw rfl (pre (aD (l.trans (by rw[f];rfl)) (bw (u.trans (by rw[k];rfl)) (ay rfl))))
  |true=>
   have hf:ki af ae day (r,n)=true:=by unfold ki;rw[f,k];rfl
   have s1:=l.trans (show some (!(gV af ae r && decide (aS r<=day)))=some false by rw[f];rfl);have s2:=u.trans (show some (!(fZ af ae n r day).isEmpty)=some false by rw[k];rfl);rw[hf,Bool.true_and];have v:aV (f2 da (cx 6 3) (am 5)) E=some (!decide ((m:Int)∈cU af ae)):=dQ (bR (.int (m:Int)) (.lst ((cU af ae).map .int)) j rfl (B4 _ _));by_cases hm:(m:Int)∈cU af ae
   ·obtain⟨x,hx,ex⟩:=vO hm;have ex:x.2=m:=by omega
    obtain⟨q,M⟩:=x;cases ex
    have hq:=bc (ls hx).1;have hk:decide (ba q<=ae)=true:=(vN (ls hx).1).2;have o:fO (aV (f2 da (cx 6 3) (am 5))) (aV (f2 Og (f2 fG (am 5) (cx 6 3)) (f2 fG (am 5) (am 3)))) E=some (!eN (q,M) (r,n)):=by
     refine(fW (p:=false) (q:=!eN (q,M) (r,n)) (v.trans (by rw[As hm];rfl)) λ_=>dQ (bR (.int ((cU af ae).findIdx (· == (M:Int)):Nat)) (.int ((cU af ae).findIdx (· == (n:Int)):Nat)) (bR (.lst ((cU af ae).map .int)) (.int (M:Int)) rfl j (Af hx)) (bR (.lst ((cU af ae).map .int)) (.int (n:Int)) rfl rfl (Af e)) ?_)).trans rfl;have:=PQ hx e;show some (D.bl (decide (((cU af ae).findIdx (· == (n:Int)):Nat)<=(((cU af ae).findIdx (· == (M:Int)):Nat):Int))),false)=_;cases hv:eN (q,M) (r,n) with
     |true=>
      have h:=this.mpr hv;have h:(cU af ae).findIdx (· == (M:Int))<(cU af ae).findIdx (· == (n:Int)):=h;rw[Qn (by omega)];rfl
     |false=>
      have h:¬(cU af ae).findIdx (· == (M:Int))<(cU af ae).findIdx (· == (n:Int)):=λz=>by have z:=this.mp z;rw[hv]at z;cases z
      rw[As (by omega)];rfl
    have s:eO af ae r n M=(decide (kindOf q∈bN) && eN (q,M) (r,n)):=by unfold eO;rw[hq];show((decide (ba q<=ae) && _) && _)=_;rw[hk];rfl
    rw[s];cases hv:eN (q,M) (r,n) with
    |false=>
     rw[Bool.and_false,Bool.false_and];exact aw rfl (pre (aD s1 (aD s2 (bw (o.trans (by rw[hv];rfl)) (ay rfl)))))
    |true=>
     rw[Bool.and_true];have w:aV (f2 da (f2 bF (f2 bF (f2 bF (am 0) (cx 6 3)) (fI 1)) (fI 0)) (fA bo (ag (fS "paper") (ag (fS "like") (ag (fS "copy") aj))))) E=some (!decide (kindOf q∈bN)):=by
      obtain⟨C,t,y,rfl,_⟩:=g q (vL hq);exact dQ (bR (.str t) (.tup (bN.map .str)) (bR (.tup (.str t::y)) (.int 0) (bR (row C t y) (.int 1) (bR (.tup af) (.int (M:Int)) rfl j (by simp[bG hq])) rfl (by simp[row,Bn])) rfl (by simp[GW])) (aL [.str "paper",.str "like",.str "copy"] rfl (cG _ (by simp))) (lg _ _))
     cases i:decide (kindOf q∈bN) with
     |false=>
      rw[Bool.false_and];exact aw rfl (pre (aD s1 (aD s2 (aD (o.trans (by rw[hv];rfl)) (bw (w.trans (by rw[i];rfl)) (ay rfl))))))
     |true=>
      rw[Bool.true_and];exact aw rfl (pre (aD s1 (aD s2 (aD (o.trans (by rw[hv];rfl)) (aD (w.trans (by rw[i];rfl)) (ay (aL [.tup af,.int ae,.int day,.int (M:Int),G] (ce rfl (ce rfl (ce rfl (ce j (ce rfl rfl))))) (Ae g gw hl ae hn ho day M hp))))))))
   ·have s:eO af ae r n m=false:=by
     cases hv:eO af ae r n m with
     |false=>rfl
     |true=>
      exfalso;unfold eO at hv;cases hq:af[m]? with
      |none=>rw[hq]at hv;cases hv
      |some q=>
       rw[hq]at hv;have h1:=(vC _ _ ▸ (vC _ _ ▸ hv).1);have h2:decide (ba q<=ae)=true/\decide (kindOf q∈bN)=true:=h1;exact hm (uS ⟨(q,m),(aZ _ _).mem_iff.mpr (mem_filter.mpr ⟨mem_filter.mpr ⟨List.mk_mem_zipIdx_iff_getElem?.mpr hq,h2.1⟩,by rw[mD (Qs h2.2)];rfl⟩),rfl⟩)
    rw[s,Bool.false_and];exact aw rfl (pre (aD s1 (aD s2 (bw ((fW (p:=true) (q:=true) (v.trans (by rw[Qn hm];rfl)) λz=>by cases z).trans rfl) (ay rfl)))))
end
def Sn (l:LD)(a:Nat):iQ l none (some (a:Int))=l.take a:=by
 unfold iQ;rw[kM (by omega)];show(l.drop 0).take (min (a:Int).toNat l.length - 0)=_;rw[List.drop_zero,Nat.sub_zero,toNat_natCast,<-List.take_eq_take_min]
def PR (l:LD)(a:Nat):iQ l (some (a:Int)) none=l.drop a:=by
 unfold iQ;rw[kM (by omega),toNat_natCast];show(l.drop (min a l.length)).take (l.length - min a l.length)=_;rw[List.take_of_length_le (by rw[length_drop];omega)];by_cases h:a<=l.length
 ·rw[Nat.min_eq_left h]
 ·rw[Nat.min_eq_right (by omega),List.drop_length,List.drop_eq_nil_of_le (by omega)]
def B5 (ps:LS)(hp:ps.length<=900)(a:Nat)(z:Str):oE [.tup (ps.map .str),.int (a:Int),.str z]=some (.tup ((ps.take a++z::ps.drop (a+1)).map .str),false):=by
 have G:qh (am 0) eZ (cY (am 1)) [some (.tup (ps.map .str),false),some (.int (a:Int),false),some (.str z,false)]=some (.tup ((ps.take a).map .str),false):=by
  show some (D.tup (iQ (ps.map .str) none (some (a:Int))),false)=_;rw[Sn,map_take]
 have e2:qh (am 0) (cY (f2 eQ (am 1) (fI 1))) eZ [some (.tup (ps.map .str),false),some (.int (a:Int),false),some (.str z,false)]=some (.tup ((ps.drop (a+1)).map .str),false):=by
  show some (D.tup (iQ (ps.map .str) (some ((a+1:Nat):Int)) none),false)=_;rw[PR,map_drop]
 refine aw rfl (ay (c9 (x:=.tup ((ps.take a++[z]).map .str)) (y:=.tup ((ps.drop (a+1)).map .str)) (b1:=false) (b2:=false) (c9 (x:=.tup ((ps.take a).map .str)) (y:=.tup [.str z]) (b1:=false) (b2:=false) G (bA (ds:=[.str z]) rfl (cG _ (by simp))) ?_) e2 ?_))
 ·show(if((ps.take a).map D.str).length+[D.str z].length<=sizeLine then some (D.tup ((ps.take a).map D.str++[.str z]),false)else none)=_;rw[if_pos (fu (by simp;omega)),uW];rfl
 ·show(if((ps.take a++[z]).map D.str).length+((ps.drop (a+1)).map D.str).length<=sizeLine then some (D.tup ((ps.take a++[z]).map D.str++(ps.drop (a+1)).map D.str),false)else none)=_;rw[if_pos (fu (by simp;omega)),<-uW,append_assoc];rfl
def Kp (l:LD)(x:D):mH (l++[x]) (-1)=some x:=by
 unfold mH Fi;rw[uZ,length_singleton,if_neg (by decide),if_pos (by omega),vJ,show(-1+((l.length+1:Nat):Int)).toNat=l.length by omega];simp
inductive Rq:D->Prop
 |non (r:D) (h:kindOf r∉bN):Rq r
 |paper (h:Int) (ax:List D) (ps:List Str) (e:ax[5]? = some (.tup (ps.map .str))) (l:ps.length<=3):Rq (row h "paper" ax)
 |like (h:Int) (ax:List D) (m c:Nat) (z:Str) (e:ax[5]? = some (.int m)) (e2:ax[6]? = some (.tup [.tup [.int (c:Int),.str z]])):Rq (row h "like" ax)
 |copy (h:Int) (ax:List D) (m:Nat) (e:ax[2]? = some (.int m)):Rq (row h "copy" ax)
def Gv (v:D):Prop:=aH 20 v=true
noncomputable abbrev pE (af G:LD)(q:LS)(M O T:OB):DL.Env:=[sT af,sL G,sT (q.map .str),M,O,T]
def B6 (n:Nat)(zs:LS):(zs.map D.str).all (aH n)=true:=by
 induction zs with
 |nil=>rfl
 |cons a l G=>simp
def B7 (z:Str)(n:Nat):Gv (.tup [.str z,.int (n:Int)]):=by simp[Gv,aH]
abbrev PO:=LS ⊕ D
def PU (r:Option Res)(af G:LD)(M:OB):PO->Prop
 |.inl q=>∃O T,r=some (.nx (pE af G q M O T))\/r=some (.ct (pE af G q M O T))
 |.inr v=>r=some (.rt v false)
def So (n:Nat):PO->Prop
 |.inl q=>q.length<=n
 |.inr v=>Gv v
section
variable {af:LD}(hq:∀r∈af,Rq r) (g:∀r∈af,cq r)
include hq g
theorem N6 (i:Nat)(hi:i<af.length)(q:LS)(hl:q.length<=500):∃o:PO,So (q.length+1) o/\∀(G:LD)(M O:OB),PU (aT (pE af G q (sI i) M O)) af G (sI i) o:=by
 obtain⟨r,U⟩:∃r,af[i]? = some r:=⟨_,vU hi⟩;have ei:∀ {ρ:DL.Env},ρ[0]? = some (sT af)->ρ[3]? = some (sI i)->f2 bF (am 0) (am 3) ρ=some (r,false):=λ{ρ} h0 h3=>bR (.tup af) (.int i) (by simp[h0]) (by simp[h3]) (by simp[bG U]);have skip:∀k:Str,a9 [r]=sS k->decide (k = "like")=false->∃o:PO,So (q.length+1) o/\∀(G:LD)(M O:OB),PU (aT (pE af G q (sI i) M O)) af G (sI i) o:=λk hw hk=>⟨.inl q,by show q.length<=_;omega,λG M O=>⟨M,O,.inr (by
  have t:aV (f2 tO (fA a9 (ag (f2 bF (am 0) (am 3)) aj)) (fS "like")) (pE af G q (sI i) M O)=some true:=(xQ (a:=k) (bb:=false) (aL [r] (ce (ei rfl rfl) rfl) hw)).trans (by rw[hk];rfl);show aA (cO _ yI aN) _ _=_;unfold aA cO;rw[t];rfl)⟩⟩
 have hR:=hq r (vL U);cases hR with
 |non r h=>exact skip (kindOf r) (iK (g r (vL U)).c) (Qn λz=>h (by rw[z];decide +kernel))
 |paper h ax ps e l=>exact skip "paper" (cb _ _ _) (by decide +kernel)
 |copy h ax m e=>exact skip "copy" (cb _ _ _) (by decide +kernel)
 |like h ax m c z e e2=>
  have t:∀G M O,aV (f2 tO (fA a9 (ag (f2 bF (am 0) (am 3)) aj)) (fS "like")) (pE af G q (sI i) M O)=some false:=λG M O=>(xQ (a:="like") (bb:=false) (aL [row h "like" ax] (ce (ei rfl rfl) rfl) (cb _ _ _))).trans (by rw[As rfl];rfl);have d:∀G M O,bK (fA av (ag (f2 bF (am 0) (am 3)) (ag (fS "changes") aj))) (gP (pE af G q (sI i) M O))=some [.tup [.int (c:Int),.str z]]:=λG M O=>by
   have f:fA av (ag (f2 bF (am 0) (am 3)) (ag (fS "changes") aj)) (gP (pE af G q (sI i) M O))=some (.tup [.tup [.int (c:Int),.str z]],false):=aL [row h "like" ax,.str "changes"] (ce (bR (.tup af) (.int i) rfl rfl (by simp[bG U])) rfl) (bC (i:=6) cM e2);unfold bK;rw[f];rfl
  have b:∀G,aV (f2 BS (am 4) (fA dJ (fV 2 aj))) (pE af G q (sI i) (sI (c:Int)) (sS z))=some (decide ((q.length:Int)<c)):=λG=>dQ (bR (.int (c:Int)) (.int (q.length:Int)) rfl (aL [.tup (q.map .str)] rfl (by simp)) rfl);have T:∀G M O,aT (pE af G q (sI i) M O)=gg (DO [4,5]) cK [.tup [.int (c:Int),.str z]] (pE af G q (sI i) M O):=λG M O=>by
   refine aD (t G M O) ?_;show(bK _ (gP (pE af G q (sI i) M O))).bind _=_;rw[d];rfl
  by_cases hc:(q.length:Int)<c
  ·rw[As hc]at b;refine⟨.inr (.tup [.str "beyond",.int (i:Int)]),B7 "beyond" i,λG M O=>?_⟩;have b1:cK (pE af G q (sI i) (sI (c:Int)) (sS z))=some (.rt (.tup [.str "beyond",.int (i:Int)]) false):=bw (b G) (ay (aL [.str "beyond",.int (i:Int)] rfl (cG _ (by simp))));show aT _=_;rw[T,ie];show(match cK (pE af G q (sI i) (sI (c:Int)) (sS z)) with|some (.nx ρ')=>_|some (.ct ρ')=>_|some (.bk ρ')=>_|r=>r)=_;rw[b1]
  ·rw[Qn hc]at b;refine⟨.inl (q.take c++z::q.drop (c+1)),by show(q.take c++z::q.drop (c+1)).length<=_;rw[uZ,length_take,vE,length_drop];omega,λG M O=>⟨sI (c:Int),sS z,.inl ?_⟩⟩;have b1:cK (pE af G q (sI i) (sI (c:Int)) (sS z))=some (.nx (pE af G (q.take c++z::q.drop (c+1)) (sI i) (sI (c:Int)) (sS z))):=aD (b G) (kL (aL [.tup (q.map .str),.int (c:Int),.str z] rfl (B5 q (by omega) c z)) (show bB _=true from eG _));rw[T,ie];show(match cK (pE af G q (sI i) (sI (c:Int)) (sS z)) with|some (.nx ρ')=>_|some (.ct ρ')=>_|some (.bk ρ')=>_|r=>r)=_;rw[b1];exact kq ..
def PX (r:Option Res)(af G:LD):PO->Prop
 |.inl q=>∃M O T,r=some (.nx (pE af G q M O T))
 |.inr v=>r=some (.rt v false)
def Tl (af T:LD):Prop:=∀(G:LD)(q:LS)(M O U:OB),∃a b c,gg (dF 3) aT T (pE af G q M O U)=some (.nx (pE af G q a b c))
theorem HH:∀(l:LN)(q:LS),(∀i∈l,i<af.length)->q.length+l.length<=400->∃o:PO,So 400 o/\∀T,Tl af T->∀(G:LD)(U M O:OB),PX (gg (dF 3) aT ((l.map λ(i:Nat)=>.int (i:Int))++T) (pE af G q U M O)) af G o
 |[],q,_,hl=>⟨.inl q,by show q.length<=400;rw[length_nil]at hl;omega,λT a G U M O=>a G q U M O⟩
 |i::l,q,hi,hl=>by
  rw[vE]at hl;have b:∀T G U M O,gg (dF 3) aT (((i::l).map λ(i:Nat)=>.int (i:Int))++T) (pE af G q U M O)=match aT (pE af G q (sI i) M O) with
    |some (.nx ρ')=>gg (dF 3) aT ((l.map λ(i:Nat)=>.int (i:Int))++T) ρ'
    |some (.ct ρ')=>gg (dF 3) aT ((l.map λ(i:Nat)=>.int (i:Int))++T) ρ'
    |some (.bk ρ')=>some (.nx ρ')
    |r=>r:=λT G U M O=>by rw[uY,cons_append,ie];rfl
  obtain⟨o,c,h⟩:=N6 hq g i (hi i (mX ..)) q (by omega);cases o with
  |inr v=>exact⟨.inr v,c,λT a G U M O=>by
    have h1:aT (pE af G q (sI i) M O)=some (.rt v false):=h G M O;show gg _ _ _ _=_;rw[b,h1]⟩
  |inl d=>
   have c:d.length<=q.length+1:=c;obtain⟨e,f,h2⟩:=HH l d (λj hj=>hi j (mZ _ hj)) (by omega);refine⟨e,f,λT a G U M O=>?_⟩;obtain⟨k,m,h1|h1⟩:=h G M O
   ·rw[b,h1];exact h2 T a G _ _ _
   ·rw[b,h1];exact h2 T a G _ _ _
theorem Kq {n:Nat}{a:Int}{rc:LD}(hc:af[n]? = some (row a "copy" rc)):Tl af [.int (n:Int)]:=λG q T M O=>by
 have t:aV (f2 tO (fA a9 (ag (f2 bF (am 0) (am 3)) aj)) (fS "like")) (pE af G q (sI n) M O)=some true:=(xQ (a:="copy") (bb:=false) (aL [row a "copy" rc] (ce (bR (.tup af) (.int n) rfl rfl (by simp[bG hc])) rfl) (cb _ _ _))).trans (by rw[Qn (by decide +kernel)];rfl);refine⟨sI n,M,O,?_⟩;rw[ie];show(match aT (pE af G q (sI n) M O) with|some (.nx ρ')=>_|some (.ct ρ')=>_|some (.bk ρ')=>_|r=>r)=_;have hb:aT (pE af G q (sI n) M O)=some (.ct (pE af G q (sI n) M O)):=by
  show aA (cO _ yI aN) _ _=_;unfold aA cO;rw[t];rfl
 rw[hb];exact kq ..
theorem HI (p:LN)(m n:Nat)(hp:∀i∈p++[m],i<af.length)(hl:p.length<=300){h:Int}{ax:LD}{ps:LS}(hm:af[m]? = some (row h "paper" ax))(T:ax[5]? = some (.tup (ps.map .str)))(h3:ps.length<=3){a:Int}{rc:LD}(hc:af[n]? = some (row a "copy" rc)):∃v,Gv v/\de [.tup af,.lst ((p++[m]).map λ(i:Nat)=>.int (i:Int))]=some (v,false)/\de [.tup af,.lst ((n::p++[m]).map λ(i:Nat)=>.int (i:Int))]=some (v,false):=by
 have M:∀init:LN,fA av (ag (f2 bF (am 0) (f2 bF (am 1) (f1 y6 (fI 1)))) (ag (fS "pieces") aj)) [sT af,sL ((init++[m]).map λ(i:Nat)=>D.int (i:Int)),none,none,none,none]=sT (ps.map .str):=λinit=>by
  refine aL [row h "paper" ax,.str "pieces"] (ce (bR (.tup af) (.int (m:Int)) rfl (bR (.lst ((init++[m]).map λ(i:Nat)=>D.int (i:Int))) (.int (-1)) rfl rfl ?_) (by simp[bG hm])) rfl) (bC (i:=5) cM T);show(mH _ (-1)).map _=_;rw[uW,show List.map (λ(n:Nat)=>D.int (n:Int)) [m]=[D.int (m:Int)]from rfl,Kp];rfl
 have ei:∀l:LN,JJ (am 1) (gP (pE af (l.map λ(i:Nat)=>D.int (i:Int)) ps none none none))=some (l.reverse.map λ(i:Nat)=>.int (i:Int)):=λl=>by
  show some (l.map λ(i:Nat)=>D.int (i:Int)).reverse=_;rw[List.map_reverse]
 have iO:∀(init:LN)(o:PO),PX (gg (dF 3) aT ((init++[m]).reverse.map λ(i:Nat)=>.int (i:Int)) (pE af ((init++[m]).map λ(i:Nat)=>D.int (i:Int)) ps none none none)) af ((init++[m]).map λ(i:Nat)=>D.int (i:Int)) o->de [.tup af,.lst ((init++[m]).map λ(i:Nat)=>.int (i:Int))]=some ((match o with|.inl q=>.tup [.str "words",.tup (q.map .str)]|.inr v=>v),false):=λinit o G=>by
  cases o with
  |inl q=>
   obtain⟨d,f,j,e⟩:=G;exact aw rfl (kO (.tup (ps.map .str)) (M init) (show bB _=true from eG _) (ft (hU (ei _) e) (ay (aL [.str "words",.tup (q.map .str)] rfl (cG _ (by simp))))))
  |inr v=>
   refine aw rfl (kO (.tup (ps.map .str)) (M init) (show bB _=true from eG _) (Nh ?_));show(JJ (am 1) (gP (pE af ((init++[m]).map λ(i:Nat)=>D.int (i:Int)) ps none none none))).bind _=_;rw[ei];exact G
 obtain⟨o,G,ha⟩:=HH hq g (p++[m]).reverse ps (λi hi=>hp i (List.mem_reverse.mp hi)) (by rw[List.length_reverse,uZ,length_singleton];omega);refine⟨_,?_,iO p o (by have:=ha [] (λO q U b c=>⟨U,b,c,kq ..⟩) ((p++[m]).map λ(i:Nat)=>D.int (i:Int)) none none none;rwa [uQ]at this),iO (n::p) o ?_⟩
 ·cases o with
  |inl q=>show aH 20 (.tup [.str "words",.tup (q.map .str)])=true;simp only[aH,all_cons,all_nil,B6,Bool.and_true]
  |inr v=>exact G
 ·have er:(n::p++[m]).reverse.map (λ(i:Nat)=>D.int (i:Int))=((p++[m]).reverse.map λ(i:Nat)=>D.int (i:Int))++[.int (n:Int)]:=by
   rw[cons_append,List.reverse_cons,uW];rfl
  rw[er];exact ha _ (Kq hq g hc) _ _ _ _
end
theorem Dq {α:Type}(p q:α->Bool):∀(l:List α),(∀x∈l,p x=true->q x=true)->∀x∈l,q x=true->p x=false->(l.filter p).length<(l.filter q).length
 |[],_,x,hx,_,_=>nomatch hx
 |y::l,h,x,hx,hq,hp=>by
  have M:(l.filter p).length<=(l.filter q).length:=by
   rw[<-List.countP_eq_length_filter,<-List.countP_eq_length_filter];exact List.countP_mono_left λz hz=>h z (mZ _ hz)
  rw[filter_cons,filter_cons];rcases vP hx with rfl|hx
  ·rw[hq,hp,if_neg (by decide),if_pos rfl,vE];omega
  ·have O:=Dq p q l (λz hz=>h z (mZ _ hz)) x hx hq hp;cases G:p y with
   |true=>rw[h y (mX ..) G,if_pos rfl,if_pos rfl,vE,vE];omega
   |false=>
    rw[if_neg (by decide)];split
    ·rw[vE];omega
    ·exact O
def EB {S T:LN}(h:S.Perm T):jd S=jd T:=by
 rw[xT,xT];congr 1;refine o7 (λn:Nat=>[(n:Int)]) _ _ (λx _ y _ e=>by injection e with e;omega) ?_ (ee _ _) (ee _ _);exact(aZ _ _).trans (h.trans (aZ _ _).symm)
noncomputable abbrev wE (af:LD)(ae:Int)(n0:Nat)(G:LN)(m:Nat):DL.Env:=[sT af,sI ae,sI n0,lT (G.map λ(i:Nat)=>.int (i:Int)),sI m]
def PY:FE:=GQ (fS "ring") (fA fU (ag (qh (am 3) (cY (f2 fG (am 3) (am 4))) eZ) aj))
abbrev wC:FT:=aV (f2 da (am 4) (am 3))
abbrev WF (fuel:Nat):FS:=aA (dr wC df fuel) (aF PY)
section
variable {af:LD}{ae:Int}{n0 a:Nat}{dM:LN}
def HJ:wC (wE af ae n0 dM a)=some (!decide (a∈dM)):=dQ (bR (.int a) (.lst (dM.map λ(i:Nat)=>.int (i:Int))) rfl rfl (tm a dM))
def Kr {v:D}{b:Bool}{fuel:Nat}(h:a∉dM)(e:df (wE af ae n0 dM a)=some (.rt v b)):WF (fuel+1) (wE af ae n0 dM a)=some (.rt v b):=by
 refine Nh ?_;rw[dr,HJ,Qn h];rw[Bool.not_false];dsimp only;rw[e]
def Ks {ρ:DL.Env}{fuel:Nat}(h:a∉dM)(e:df (wE af ae n0 dM a)=some (.nx ρ)):WF (fuel+1) (wE af ae n0 dM a)=WF fuel ρ:=by
 have:dr wC df (fuel+1) (wE af ae n0 dM a)=dr wC df fuel ρ:=by
  rw[dr,HJ,Qn h];rw[Bool.not_false];dsimp only;rw[e]
 show aA _ _ _=aA _ _ _;unfold aA;rw[this]
def xW {fuel i:Nat}(h:a∈dM)(hl:dM.length<=60)(hi:(dM.map λ(n:Nat)=>(n:Int)).findIdx (· == (a:Int))=i):WF (fuel+1) (wE af ae n0 dM a)=some (.rt (.tup [.str "ring",.lst (jd (dM.drop i))]) true):=by
 have M:dr wC df (fuel+1) (wE af ae n0 dM a)=some (.nx (wE af ae n0 dM a)):=by
  rw[dr,HJ,As h];rfl
 have G:i<(dM.map λ(n:Nat)=>(n:Int)).length:=hi ▸ List.findIdx_lt_length_of_exists ⟨(a:Int),uS ⟨a,h,rfl⟩,by simp⟩;have O:f2 fG (am 3) (am 4) (wE af ae n0 dM a)=sI (i:Int):=by
  refine bR (.lst (dM.map λ(n:Nat)=>.int (n:Int))) (.int (a:Int)) rfl rfl ?_;have T:(dM.map λ(n:Nat)=>D.int (n:Int))=(dM.map λ(n:Nat)=>(n:Int)).map .int:=by rw[uP];rfl
  rw[T];simp only[fG,t6,vJ];rw[hi,if_pos G]
 have e2:qh (am 3) (cY (f2 fG (am 3) (am 4))) eZ (wE af ae n0 dM a)=lT ((dM.drop i).map λ(n:Nat)=>.int (n:Int)):=by
  have U:cY (f2 fG (am 3) (am 4)) (wE af ae n0 dM a)=some (some (i:Int)):=by unfold cY;rw[O]
  unfold qh;rw[show am 3 (wE af ae n0 dM a)=some (.lst (dM.map λ(n:Nat)=>.int (n:Int)),false)from rfl,vJ,U,vJ,show eZ (wE af ae n0 dM a)=some none from rfl,vJ];show some (D.lst (iQ (dM.map λ(n:Nat)=>.int (n:Int)) (some (i:Int)) none),true)=_;rw[PR,map_drop]
 refine ft M (ay ?_);have b:fA fU (ag (qh (am 3) (cY (f2 fG (am 3) (am 4))) eZ) aj) (wE af ae n0 dM a)=lT (jd (dM.drop i)):=aL [.lst ((dM.drop i).map λ(n:Nat)=>.int (n:Int))] (aQ e2 rfl) (E7 _ (by rw[length_drop];omega));show((fS "ring" (wE af ae n0 dM a)).bind λx=>(fA fU (ag (qh (am 3) (cY (f2 fG (am 3) (am 4))) eZ) aj) (wE af ae n0 dM a)).bind _)=_;rw[b];rfl
end
noncomputable def left (af:LD)(p:LN):Nat:=((List.range af.length).filter λi=>decide (i∉p)).length
def Kt {af:LD}{p:LN}{a:Nat}(ha:a<af.length)(h:a∉p):left af (p++[a])<left af p:=by
 refine Dq _ _ _ (λx _ hx=>?_) a (mem_range.mpr ha) (As h) (Qn (by simp));have hx:=Qs hx;exact As λz=>hx (mem_append.mpr (.inl z))
def Ku {n a:Nat}(p:LN)(h:a≠n):((n::p).map λ(n:Nat)=>(n:Int)).findIdx (· == (a:Int))=(p.map λ(n:Nat)=>(n:Int)).findIdx (· == (a:Int))+1:=by
 rw[uY,List.findIdx_cons];have:((n:Int) == (a:Int))=false:=beq_eq_false_iff_ne.mpr λz=>h (by omega);rw[this];rfl
def Dr (a:Nat)(p:LN):((a::p).map λ(n:Nat)=>(n:Int)).findIdx (· == (a:Int))=0:=by
 rw[uY,List.findIdx_cons];have:((a:Int) == (a:Int))=true:=beq_self_eq_true _;rw[this];rfl
def Ds (S:LN):Gv (.tup [.str "ring",.lst (jd S)]):=by
 have:(jd S).all (aH 18)=true:=by
  rw[all_eq_true];intro d hd;obtain⟨z,_,rfl⟩:=vO hd;rfl
 show(true && (aH 19 (.lst (jd S)) && true))=true;rw[show aH 19 (.lst (jd S))=(jd S).all (aH 18)from rfl,this];rfl
section
variable {af:LD}(hq:∀r∈af,Rq r) (g:∀r∈af,cq r) (ae:Int)
include hq g
theorem N7 (a:Nat):(∃v,Gv v/\∀n0 G,df (wE af ae n0 G a)=some (.rt v false))\/(a<af.length/\((∃h ax,∃ps:LS,af[a]? = some (row h "paper" ax)/\ax[5]? = some (.tup (ps.map .str))/\ps.length<=3/\∀n0 G v,G.length<=100->de [.tup af,.lst ((G++[a]).map λ(i:Nat)=>.int (i:Int))]=some (v,false)->df (wE af ae n0 G a)=some (.rt v false))\/∃j,∀n0 G,G.length<=100->df (wE af ae n0 G a)=some (.nx (wE af ae n0 (G++[a]) j)))):=by
 cases O:af[a]? with
 |none=>
  have hn:af.length<=a:=List.getElem?_eq_none_iff.mp O;refine .inl ⟨_,B7 "lacks" a,λn0 G=>bw (bX (p:=false) (dQ (aL [.tup af,.int ae,.int a] rfl (aw rfl (ay (dc (p:=false) (q:=false) (aL [.tup af,.int ae,.int a] rfl (wv hn ae)) λz=>by cases z)))))) (ay (aL [.str "lacks",.int (a:Int)] rfl (cG _ (by simp))))⟩
 |some r=>
  have k:=g r (vL O);have ha:=(vV O).1;have ei:∀ {ρ:DL.Env},ρ[0]? = some (sT af)->ρ[4]? = some (sI a)->f2 bF (am 0) (am 4) ρ=some (r,false):=λ{ρ} h0 h3=>bR (.tup af) (.int a) (by simp[h0]) (by simp[h3]) (by simp[bG O]);have f:∀n0 G,cm (aV (fA cj (fV 0 (fV 1 (fV 4 aj))))) (wE af ae n0 G a)=some (!(decide (ba r<=ae) && decide (kindOf r∈bN))):=λn0 G=>bX (dQ (aL [.tup af,.int ae,.int a] rfl (lr O k ae)));cases hv:(decide (ba r<=ae) && decide (kindOf r∈bN)) with
  |false=>exact .inl ⟨_,B7 "lacks" a,λn0 G=>bw ((f n0 G).trans (by rw[hv];rfl)) (ay (aL [.str "lacks",.int (a:Int)] rfl (cG _ (by simp))))⟩
  |true=>
   have hk:=Qs (vC _ _ ▸ hv).2;have s1:∀n0 G,cm (aV (fA cj (fV 0 (fV 1 (fV 4 aj))))) (wE af ae n0 G a)=some false:=λn0 G=>(f n0 G).trans (by rw[hv];rfl);have M:∀n0 G,G.length<=100->∀ {T:FS}{res:Option Res},T (wE af ae n0 (G++[a]) a)=res->aA (tM 3 (am 4)) T (wE af ae n0 G a)=res:=λn0 G hl {T res} hT=>Lv (ds:=G.map λ(i:Nat)=>.int (i:Int)) (d:=.int (a:Int)) (b:=false) rfl rfl rfl (eA (by rw[vI];omega)) (by
    have e:(G.map λ(i:Nat)=>D.int (i:Int))++[.int (a:Int)]=(G++[a]).map λ(i:Nat)=>D.int (i:Int):=by rw[uW];rfl
    rw[e];exact hT)
   refine .inr ⟨ha,?_⟩;have hR:=hq r (vL O);cases hR with
   |non r h=>exact absurd hk h
   |paper h ax ps e l=>exact .inl ⟨h,ax,ps,rfl,e,l,λn0 G v hl m=>aD (s1 n0 G) (M n0 G hl (bw (cE (a:="paper") (bb:=false) (aL [row h "paper" ax] (ce (ei rfl rfl) rfl) (cb _ _ _)) (As rfl)) (ay (aL [.tup af,.lst ((G++[a]).map λ(i:Nat)=>.int (i:Int))] rfl m))))⟩
   |like h ax U c z e e2=>exact .inr ⟨U,λn0 G hl=>aD (s1 n0 G) (M n0 G hl (aD (cE (a:="like") (bb:=false) (aL [row h "like" ax] (ce (ei rfl rfl) rfl) (cb _ _ _)) (Qn (by decide +kernel))) (kL (aL [row h "like" ax,.str "of"] (ce (ei rfl rfl) rfl) (bC (i:=5) cM e)) rfl)))⟩
   |copy h ax U e=>exact .inr ⟨U,λn0 G hl=>aD (s1 n0 G) (M n0 G hl (aD (cE (a:="copy") (bb:=false) (aL [row h "copy" ax] (ce (ei rfl rfl) rfl) (cb _ _ _)) (Qn (by decide +kernel))) (kL (aL [row h "copy" ax,.str "of"] (ce (ei rfl rfl) rfl) (bC (i:=2) cM e)) rfl)))⟩
theorem Ag (C:af.length<=30){n m:Nat}(s:m≠n){u:Int}{rc:LD}(hc:af[n]? = some (row u "copy" rc))(w:∀n0 M,M.length<=100->df (wE af ae n0 M n)=some (.nx (wE af ae n0 (M++[n]) m)))(k:Nat)(p:LN)(a fA O:Nat)(hk:left af p<=k)(hp:p.length+left af p<=af.length)(hi:∀i∈p,i<af.length/\i≠n)(hs:p=[]/\a=m\/∃t,p=m::t)(D:k+3<=fA)(E:k+3<=O)
  (q:∀(b:LN)(c:Nat),left af b<left af p->b.length+left af b<=af.length->(∀i∈b,i<af.length/\i≠n)->(b=[]/\c=m\/∃t,b=m::t)->∃v b1 b2,Gv v/\WF (fA - 1) (wE af ae n (n::b) c)=some (.rt v b1)/\WF (O - 1) (wE af ae m b c)=some (.rt v b2)):∃v b1 b2,Gv v/\WF fA (wE af ae n (n::p) a)=some (.rt v b1)/\WF O (wE af ae m p a)=some (.rt v b2):=by
 obtain⟨fA,rfl⟩:∃j,fA=j+1:=⟨fA - 1,by omega⟩;obtain⟨O,rfl⟩:∃j,O=j+1:=⟨O - 1,by omega⟩;rw[Nat.add_sub_cancel,Nat.add_sub_cancel]at q;by_cases U:a=n
 ·subst U;rcases hs with⟨_,h⟩|⟨t,rfl⟩
  ·exact absurd h.symm s
  have x:a∉m::t:=λz=>(hi a z).2 rfl;obtain⟨O,rfl⟩:∃j,O=j+1:=⟨O - 1,by omega⟩;have F:(m::t).length<=30:=by omega
  refine⟨.tup [.str "ring",.lst (jd (a::m::t))],true,true,Ds _,?_,?_⟩
  ·exact xW (i:=0) (mX ..) (by rw[vE];omega) (Dr _ _)
  ·rw[Ks x (w m (m::t) (by omega)),xW (i:=0) (mem_append.mpr (.inl (mX ..))) (by rw[uZ,length_singleton];omega) (Dr _ _)];rw[List.drop_zero,EB (S:=m::t++[a]) (T:=a::m::t) (List.perm_append_singleton a (m::t))]
 ·have d:a∉p->a∉n::p:=λh z=>by
   rcases vP z with z|z
   ·exact U z
   ·exact h z
  by_cases G:a∈p
  ·refine⟨_,true,true,Ds _,xW (mZ _ G) (by rw[vE];omega) (Ku p U),?_⟩;rw[List.drop_succ_cons];exact xW G (by omega) rfl
  ·rcases N7 hq g ae a with⟨v,f,hv⟩|⟨ha,⟨h,ax,ps,y,e,l,hv⟩|⟨c,hv⟩⟩
   ·exact⟨v,false,false,f,Kr (d G) (hv _ _),Kr G (hv _ _)⟩
   ·obtain⟨v,f,A,e2⟩:=HI hq g p a n (λi o=>by
     rcases mem_append.mp o with z|z
     ·exact(hi i z).1
     ·cases uT z;exact ha) (by omega) y e l hc
    exact⟨v,false,false,f,Kr (d G) (hv _ _ _ (by rw[vE];omega) e2),Kr G (hv _ _ _ (by omega) A)⟩
   ·rw[Ks (d G) (hv _ _ (by rw[vE];omega)),Ks G (hv _ _ (by omega))];have B:=Kt ha G;refine q (p++[a]) c B (by rw[uZ,length_singleton];omega) (λi o=>?_) (.inr ?_)
    ·rcases mem_append.mp o with z|z
     ·exact hi i z
     ·cases uT z;exact⟨ha,U⟩
    ·rcases hs with⟨rfl,rfl⟩|⟨t,rfl⟩
     ·exact⟨[],rfl⟩
     ·exact⟨t++[a],rfl⟩
theorem VN (c:af.length<=30){n m:Nat}(O:m≠n){e:Int}{rc:LD}(hc:af[n]? = some (row e "copy" rc))(T:∀n0 G,G.length<=100->df (wE af ae n0 G n)=some (.nx (wE af ae n0 (G++[n]) m))):∀(k:Nat)(p:LN)(a fA M:Nat),left af p<=k->p.length+left af p<=af.length->(∀i∈p,i<af.length/\i≠n)->(p=[]/\a=m\/∃t,p=m::t)->k+3<=fA->k+3<=M->∃v b1 b2,Gv v/\WF fA (wE af ae n (n::p) a)=some (.rt v b1)/\WF M (wE af ae m p a)=some (.rt v b2):=by
 intro k;induction k with
 |zero=>
  intro p a fA M hk hp hi hs U b;exact Ag hq g ae c O hc T 0 p a fA M hk hp hi hs U b λd _ h _=>by omega
 |succ k f=>
  intro p a fA M hk hp hi hs U b;exact Ag hq g ae c O hc T (k+1) p a fA M hk hp hi hs U b λd j h1 h2 h3 h4=>f d j (fA - 1) (M - 1) (by omega) h2 h3 h4 (by omega) (by omega)
theorem B8 (c:af.length<=30){n m:Nat}(T:m≠n){M d:Int}{b:Str}(hc:af[n]? = some (row M "copy" [.int d,.str b,.int m]))(hk:M<=ae):∃v b1 b2,Gv v/\jO [.tup af,.int ae,.int n]=some (v,b1)/\jO [.tup af,.int ae,.int m]=some (v,b2):=by
 have hn:n<af.length:=(vV hc).1;have f:=g _ (vL hc);have O:∀n0 G,G.length<=100->df (wE af ae n0 G n)=some (.nx (wE af ae n0 (G++[n]) m)):=λn0 G hl=>by
  have ei:∀ {ρ:DL.Env},ρ[0]? = some (sT af)->ρ[4]? = some (sI n)->f2 bF (am 0) (am 4) ρ=some (row M "copy" [.int d,.str b,.int m],false):=λ{ρ} h0 h3=>bR (.tup af) (.int n) (by simp[h0]) (by simp[h3]) (by simp[bG hc]);have s1:cm (aV (fA cj (fV 0 (fV 1 (fV 4 aj))))) (wE af ae n0 G n)=some false:=(bX (dQ (aL [.tup af,.int ae,.int n] rfl (lr hc f ae)))).trans (by
   rw[As (show ba (row M "copy" [.int d,.str b,.int m])<=ae from hk),show decide (kindOf (row M "copy" [.int d,.str b,.int m])∈bN)=true from(by decide +kernel:decide (("copy" : Str)∈bN)=true)];rfl)
  refine aD s1 (Lv (ds:=G.map λ(i:Nat)=>.int (i:Int)) (d:=.int (n:Int)) (b:=false) rfl rfl rfl (eA (by rw[vI];omega)) ?_);have e:(G.map λ(i:Nat)=>D.int (i:Int))++[.int (n:Int)]=(G++[n]).map λ(i:Nat)=>D.int (i:Int):=by rw[uW];rfl
  rw[e];exact aD (cE (a:="copy") (bb:=false) (aL [row M "copy" [.int d,.str b,.int m]] (ce (ei rfl rfl) rfl) (cb _ _ _)) (Qn (by decide +kernel))) (kL (aL [row M "copy" [.int d,.str b,.int m],.str "of"] (ce (ei rfl rfl) rfl) (bC (i:=2) cM rfl)) rfl)
 have h0:left af []<=af.length:=by unfold left;exact vR (vM _ _) (by rw[length_range];exact vT _)
 obtain⟨v,b1,b2,h,j,e2⟩:=VN hq g ae c T hc O af.length [] m 999 1000 h0 (by rw[length_nil];omega) (by simp) (.inl ⟨rfl,rfl⟩) (by omega) (by omega);have U:WF 1000 (wE af ae n [] n)=some (.rt v b1):=by rw[Ks (by simp) (O n [] (by simp))];exact j
 exact⟨v,b1,b2,h,aw rfl (dq (ds:=[]) (aL [] rfl (fK _ (by simp))) rfl (kO (.int n) rfl rfl U)),aw rfl (dq (ds:=[]) (aL [] rfl (fK _ (by simp))) rfl (kO (.int m) rfl rfl e2))⟩
end
end Lw
namespace Lw
open PySem DL L2
def PZ (d:D)(r:LD):iQ (d::r) (some 1) none=r:=by
 unfold iQ;rw[kM (v:=1) (by decide)];have:HT.dS (d::r).length (d::r).length none=(d::r).length:=rfl;rw[this];have:min (1:Int).toNat (d::r).length=1:=by simp
 rw[this];simp
def Ah (af:LD)(n:Nat):iQ af none (some (n:Int))=af.take n:=by
 unfold iQ;rw[HT.Ff,HT.ID];simp
def Dt {op:D->OB}{fa:FE}{ρ:DL.Env}{x:D}{b:Bool}{z:OB}(G:fa ρ=some (x,b))(e2:op x=z):f1 op fa ρ=z:=by unfold f1;rw[G];exact e2
def Ai (parts:LS)(ax:LD):jh (parts.map .str) ax=(parts.zip ax).map λx=>.tup [.str x.1,x.2]:=by
 induction parts generalizing ax with
 |nil=>rfl
 |cons a l G=>
  cases ax with
  |nil=>rfl
  |cons d r=>have:=G r;unfold jh at this |-;simp[this]
def HK {α:Type}(l:List α):yB [.lst (l.map λ_=>.bl true)]=some (.bl true,false):=by
 have:=rL (λ_:α=>true) l;simp only[yB,this,map_some];congr 2;simp
noncomputable def fL (z:Str):Bool:=AE (.str z) [.str "by",.str "person",.str "whom"]
noncomputable def there:D->Bool
 |.non=>false
 |_=>true
@[simp] def Sq:there .non=false:=rfl
@[simp] def Sr (z:Str):there (.str z)=true:=rfl
@[simp] def Ss (z:Int):there (.int z)=true:=rfl
@[simp] def Su (z:LD):there (.tup z)=true:=rfl
def Aj (d:D)(h:AG d=false):ky d .non=some (.bl (there d),false):=by
 cases d<;>simp[qM,there]at h |-
noncomputable def oR (l:List (Str×D)):LD:=(l.filter λx=>fL x.1 && there x.2).map (·.2)
noncomputable def P6:LS:=[("ann" : Str),"bob","cid","dan"]
noncomputable def off (k:Nat):Str:=if k=0 then "king" else "abbot"
def Kv:∀h:_root_.Fin 14,PF (iC [.int (h.val:Int)]) (.bl true) false=true:=by decide +kernel
def Kw {h:Int}(h0:0<=h)(h1:h<14):iC [.int h]=some (.bl true,false):=by
 obtain⟨n,rfl⟩:=Int.eq_ofNat_of_zero_le h0;exact rJ (Kv ⟨n,by omega⟩)
structure DeedG (k:Nat)(h:Int)(kind:Str)(ax:List D):Prop where
 parts:∃(parts:List Str)(ss:List Str),mi bL (.str kind)=some (.tup (parts.map .str),false)/\parts.length=ax.length/\(∀x∈parts.zip ax,ii [.str x.1,x.2]=some (.bl true,false))/\oR (parts.zip ax)=ss.map .str/\ss.length<=2/\∀s∈ss,s∈P6
 len:ax.length<=10
 flat:∀d∈ax,b8 d=true/\AG d=false
 day:(kind=("root" : Str)/\(k=0\/k=2)/\∃r,ax=.str (off k)::r)\/(kind≠("root" : Str)/\(∃(day:Int)(r:List D),ax=.int day::r/\day<=h/\0<=day/\(kind=("chosen" : Str)->∃a b c s,r=[a,b,c,.int s]/\day<=s))/\mq bL (.str kind) (.str "day")=some (.int 0,false))
def pZ (k:Nat)(r:D):Prop:=∃h kind ax,r=row h kind ax/\0<=h/\h<14/\DeedG k h kind ax
def Qa (k q:Str):dw (.str k) (.str q)=some (.bl (decide (k=q)),false):=by simp
noncomputable def HL:D->D
 |.tup [_,.tup (.str _::.int d::_)]=>.int d
 |_=>.non
def Kx {k:Nat}{h:Int}{kind:Str}{ax:LD}(g:DeedG k h kind ax):bi [row h kind ax]=some (HL (row h kind ax),false):=by
 rcases g.day with⟨e,_,r,rfl⟩|⟨e,⟨day,r,rfl,_⟩,hi⟩
 ·exact aw rfl (bw (dB (b:=false) (c9 (x:=.str kind) (y:=.str "root") (b1:=false) (b2:=false) (bA (ds:=[row h kind (.str (off k)::r)]) rfl (cb _ _ _)) rfl (by rw[Qa,As e]))) (ay rfl))
 ·exact aw rfl (aD (dB (b:=false) (c9 (x:=.str kind) (y:=.str "root") (b1:=false) (b2:=false) (bA (ds:=[row h kind (.int day::r)]) rfl (cb _ _ _)) rfl (by rw[Qa,Qn e]))) (ay (bA (ds:=[row h kind (.int day::r),.str "day"]) rfl (bC (i:=0) hi rfl))))
def HM {k:Nat}{h:Int}{kind:Str}{ax:LD}(g:DeedG k h kind ax):oD [.tup (.str kind::ax)]=some (.bl true,false):=by
 obtain⟨parts,ss,hp,hl,ha,_⟩:=g.parts;have G:(bL.lookup kind).isSome=true:=by
  simp only[mi]at hp;obtain⟨d,h1,_⟩:=oY hp;rw[h1];rfl
 have hsz:=g.len;have M:f2 bF (am 0) (fC (.int 0)) [some (.tup (.str kind::ax),false)]=some (.str kind,false):=by simp[GW]
 have O:f1 (mi bL) (f2 bF (am 0) (fC (.int 0))) [some (.tup (.str kind::ax),false)]=some (.tup (parts.map .str),false):=Dt (x:=.str kind) (b:=false) M hp;refine aw rfl (aD (fW (p:=false) (q:=false) (by simp) λ_=>fW (p:=false) (q:=false) (dB (b:=false) (by simp;omega)) λ_=>bX (p:=true) (dB (b:=false) (bA (ds:=[.str kind,.ty "str"]) (aQ M rfl) (by simp)))) (aD (fW (p:=false) (q:=false) (dB (b:=false) (Dt (x:=.str kind) (b:=false) M ?_)) λ_=>dB (b:=false) (c9 (x:=.int ((ax.length+1:Nat):Int)) (y:=.int (1+(parts.length:Int))) (b1:=false) (b2:=false) (by simp) (c9 (x:=.int 1) (y:=.int parts.length) (b1:=false) (b2:=false) rfl (bA (ds:=[.tup (parts.map .str)]) (aQ O rfl) (by simp)) (by simp)) ?_)) (ay (bA (ds:=[.lst ((parts.zip ax).map λ_=>.bl true)]) ?_ (HK _)))))
 ·simp only[qQ,G];rfl
 ·simp;omega
 ·have:=vk (fi:=FV (f1 (mi bL) (f2 bF (am 0) (fC (.int 0)))) (qh (am 0) (cY (fC (.int 1))) eZ)) (nT:=2) (cap:=[]) (tg:=DO [0,1]) (fe:=fA ii (ag (am 0) (ag (am 1) aj))) (ρ:=[some (.tup (.str kind::ax),false)]) (parts.zip ax) (λx=>.tup [.str x.1,x.2]) (λ_=>.bl true)
   (by
    show(f1 (mi bL) _ _).bind _=_;rw[O];simp[PZ,Ai]) (by rw[length_zip];omega) λx hx=>by
    have T:=g.flat x.2 (of_mem_zip hx).2;exact⟨_,rfl,false,bA (ds:=[.str x.1,x.2]) (by simp[eP]) (ha x hx)⟩
  exact aQ (b:=true) this rfl
def EC (r:D):b8 (HL r)=true:=by
 unfold HL;split<;>rfl
def B9 {k:Nat}{h:Int}{kind:Str}{ax:LD}(g:DeedG k h kind ax):kR [row h kind ax]=some (.bl true,false):=by
 have hd:=Kx g;have G:∀ {hh:FS}{r:Option Res},hh [some (row h kind ax,false),some (HL (row h kind ax),false)]=r->aA (br 1 (fA bi (ag (am 0) aj))) hh [some (row h kind ax,false),none]=r:=λe=>rK (d:=HL (row h kind ax)) (b:=false) (bA (ds:=[row h kind ax]) rfl hd) (EC _) e;rcases g.day with⟨e,_,r,rfl⟩|⟨e,⟨day,r,rfl,O,T,M⟩,hi⟩
 ·exact aw rfl (G (bw (dB (b:=false) (c9 (x:=.non) (y:=.non) (b1:=false) (b2:=false) rfl rfl (by simp[qM]))) (ay rfl)))
 ·refine aw rfl (G (aD (dB (b:=false) (c9 (x:=.int day) (y:=.non) (b1:=false) (b2:=false) rfl rfl (by simp[qM]))) (aD ((fz (p:=decide (kind=("chosen" : Str))) (q:=false) (dB (b:=false) (c9 (x:=.str kind) (y:=.str "chosen") (b1:=false) (b2:=false) (bA (ds:=[row h kind (.int day::r)]) rfl (cb _ _ _)) rfl (Qa _ _))) λhc=>?_).trans (by rw[Bool.and_false])) (ay ?_))))
  ·have hc:=Qs hc;subst hc;obtain⟨a,b,c,s,rfl,hs⟩:=M rfl;refine dB (b:=false) (c9 (x:=.int s) (y:=.int day) (b1:=false) (b2:=false) (bA (ds:=[row h ("chosen" : Str) [.int day,a,b,c,.int s],.str "since"]) rfl (bC (i:=4) (rJ (by decide +kernel)) rfl)) rfl ?_);simp;omega
  ·refine c9 (x:=.int day) (y:=.int h) (b1:=false) (b2:=false) rfl (by simp[row,GW]) ?_;simp;omega
def Ky {k:Nat}{r:D}(g:pZ k r):rP [r]=some (.bl true,false):=by
 obtain⟨h,kind,ax,rfl,h0,h1,g⟩:=g;refine aw rfl (aD (fW (p:=false) (q:=false) (by simp[row]) λ_=>by simp[row]) (ay ((dc (p:=true) (q:=true) (b1:=false) (bA (ds:=[.int h]) (by simp[row,GW]) (Kw h0 h1)) λ_=>(dc (p:=true) (q:=true) (b1:=false) (bA (ds:=[.tup (.str kind::ax)]) (by simp[row,Bn]) (HM g)) λ_=>bA (ds:=[row h kind ax]) rfl (B9 g)).trans rfl).trans rfl)))
noncomputable def wy:D->Str
 |.tup [_,.tup (_::.str o::_)]=>o
 |_=>("" : Str)
def Kz:mq bL (.str "root") (.str "office")=some (.int 0,false):=rJ (by decide +kernel)
def t9 {k:Nat}{r:D}(g:pZ k r)(h:bj r=true):av [r,.str "office"]=some (.str (wy r),false)/\wy r=off k/\(k=0\/k=2):=by
 obtain⟨a,kind,ax,rfl,_,_,g⟩:=g;have h:kind=("root" : Str):=Qs h;subst h;rcases g.day with⟨_,hk,r,rfl⟩|⟨e,_⟩
 ·exact⟨bC (i:=0) Kz rfl,rfl,hk⟩
 ·exact absurd rfl e
def tE {k:Nat}{r:D}(g:pZ k r):a9 [r]=some (.str (kindOf r),false):=by
 obtain⟨a,kind,ax,rfl,_⟩:=g;exact cb _ _ _
def K0 (k:Str)(G:LS):AF (.str k) (.lst (G.map .str))=some (.bl (decide (k∈G)),false):=by
 simp only[AF,gd,vJ,sy];rw[if_pos ⟨rfl,oH G⟩]
def Ak (af:LD):Prop:=af.length<=24/\∀(j:Nat) r,af[j]? = some r->pZ j r
def Ak.mem {af:LD}(g:Ak af){r:D}(h:r∈af):∃k,pZ k r:=by
 obtain⟨j,hj⟩:=mem_iff_getElem?.mp h;exact⟨j,g.2 j r hj⟩
def ED {af:LD}(g:Ak af){i:Nat}{r:D}(a:af[i]? = some r):gs [.tup (af.take i),r]=some (.bl false,false):=by
 have hi:=(vV a).1;have d:=g.2 i r a;have o:=g.1;refine aw rfl (ay ((dc (p:=bj r) (q:=false) (b1:=false) (c9 (x:=.str (kindOf r)) (y:=.str "root") (b1:=false) (b2:=false) (bA (ds:=[r]) rfl (tE d)) rfl (Qa _ _)) λM=>?_).trans (by rw[Bool.and_false])));obtain⟨f,T,hk⟩:=t9 d M;have G:∀x∈af.take i,∃j,j<i/\pZ j x:=λx hx=>by
  obtain⟨j,hj⟩:=mem_iff_getElem?.mp hx;rw[List.getElem?_take]at hj;split at hj
  ·rename_i U;exact⟨j,U,g.2 j x hj⟩
  ·cases hj
 have hc:=gf (fi:=bK (am 0)) (nT:=1) (cap:=[]) (tg:=dF 0) (c:=aV (f2 dw (fA a9 (ag (am 0) aj)) (fC (.str "root")))) (fe:=fA av (ag (am 0) (ag (fC (.str "office")) aj))) (ρ:=[some (.tup (af.take i),false)]) (af.take i) (λx=>x) bj (λx=>.str (wy x)) (by simp) (by simp;omega) λx hx=>by
  obtain⟨j,hj,O⟩:=G x hx;exact⟨_,rfl,dB (b:=false) (c9 (x:=.str (kindOf x)) (y:=.str "root") (b1:=false) (b2:=false) (bA (ds:=[x]) (by simp[eP]) (tE O)) rfl (Qa _ _)),λhx=>⟨false,bA (ds:=[x,.str "office"]) (by simp[eP]) (t9 O hx).1⟩⟩
 have h:iD [.tup (af.take i)]=some (.lst ((((af.take i).filter bj).map wy).map .str),true):=by
  rw[uP];exact aw rfl (ay hc)
 refine c9 (x:=.str (wy r)) (y:=.lst ((((af.take i).filter bj).map wy).map .str)) (b1:=false) (b2:=true) (bA (ds:=[r,.str "office"]) rfl f) (bA (ds:=[.tup (af.take i)]) rfl h) ?_;rw[K0];congr 3;refine Qn λk=>?_;obtain⟨x,hx,e⟩:=vO k;obtain⟨hx,l⟩:=vN hx;obtain⟨j,hj,O⟩:=G x hx;obtain⟨_,m,n⟩:=t9 O l;rw[T,m]at e;have:¬off 0=off 2:=by decide +kernel
 rcases hk with rfl|rfl<;>rcases n with rfl|rfl
 ·omega
 ·omega
 ·exact this e
 ·omega
theorem Al:∀(ss G:LS){x:Str},x∈ss.foldl ji G->x∈G\/x∈ss
 |[],G,x,h=>.inl h
 |y::ss,G,x,h=>by
  rw[foldl_cons]at h;rcases Al ss (ji G y) h with h|h
  ·rcases qR.mp h with h|h
   ·exact .inl h
   ·exact .inr (h ▸ mX)
  ·exact .inr (mZ _ h)
theorem tF:∀(ss G:LS),G.Nodup->(ss.foldl ji G).Nodup
 |[],G,h=>h
 |y::ss,G,h=>tF ss (ji G y) (AN h y)
def Am {ss:LS}{x:Str}(h:x∈gG ss):x∈ss:=by
 rcases Al ss [] h with h|h
 ·cases h
 ·exact h
theorem An:∀(l m:LS),l.Nodup->(∀x∈l,x∈m)->l.length<=m.length
 |[],m,_,_=>uN _
 |x::l,m,h,s=>by
  rw[nodup_cons]at h;have hx:=s x mX;have:=An l (m.erase x) h.2 λy hy=>(List.mem_erase_of_ne (a:=y) (b:=x) (λe=>h.1 (by rw[<-e];exact hy))).mpr (s y (mZ _ hy));rw[List.length_erase_of_mem hx]at this;have:0<m.length:=List.length_pos_of_mem hx;rw[vE];omega
def HN {h:Int}{kind:Str}{ax:LD}{parts:LS}(hp:mi bL (.str kind)=some (.tup (parts.map .str),false)):gt [row h kind ax]=some (.lst ((parts.zip ax).map λx=>.tup [.str x.1,x.2]),true):=by
 refine aw rfl (ay ?_);have G:f1 (mi bL) (fA a9 (ag (am 0) aj)) [some (row h kind ax,false)]=some (.tup (parts.map .str),false):=Dt (x:=.str kind) (b:=false) (bA (ds:=[row h kind ax]) rfl (cb h kind ax)) hp;have e2:qh (f2 bF (am 0) (fC (.int 1))) (cY (fC (.int 1))) eZ [some (row h kind ax,false)]=some (.tup ax,false):=by simp[row,Bn,PZ]
 show(((f1 (mi bL) (fA a9 (ag (am 0) aj)) [some (row h kind ax,false)]).bind λx=>(qh (f2 bF (am 0) (fC (.int 1))) (cY (fC (.int 1))) eZ [some (row h kind ax,false)]).bind λy=>(gd x.1).bind λxs=>(gd y.1).map λys=>jh xs ys).map λds=>(D.lst ds,true))=_;rw[G,e2];simp[Ai]
def EE {k:Nat}{r:D}(g:pZ k r):∃ss:LS,gK [r]=some (.lst (ss.map .str),true)/\ss.length<=2/\∀s∈ss,s∈P6:=by
 obtain⟨h,kind,ax,rfl,_,_,g⟩:=g;obtain⟨parts,ss,hp,hl,_,hk,M,O⟩:=g.parts;have G:=gf (fi:=bK (fA gt (ag (am 0) aj))) (nT:=2) (cap:=[]) (tg:=DO [0,1]) (c:=fN (aV (f2 AF (am 0) (fC eB))) (aV (f2 ky (am 1) (fC .non)))) (fe:=am 1)
  (ρ:=[some (row h kind ax,false),none]) (parts.zip ax) (λx=>.tup [.str x.1,x.2]) (λx=>fL x.1 && there x.2) (·.2) (by
   have U:fA gt (ag (am 0) aj) [some (row h kind ax,false),none]=_:=bA (ds:=[row h kind ax]) rfl (HN hp);show Option.bind (fA gt (ag (am 0) aj) [some (row h kind ax,false),none]) _=_;rw[U];rfl) (by
   have:=g.len;rw[length_zip];omega) λx hx=>by
   have T:=(g.flat x.2 (of_mem_zip hx).2);refine⟨_,rfl,fz (dB (b:=false) ?_) λ_=>dB (b:=false) ?_,λ_=>⟨false,?_⟩⟩
   ·refine c9 (x:=.str x.1) (y:=eB) (b1:=false) (b2:=false) (by simp[eP]) rfl ?_;simp[eB,fL,fQ]
   ·exact c9 (x:=x.2) (y:=.non) (b1:=false) (b2:=false) (by simp[eP]) rfl (Aj _ T.2)
   ·simp[eP]
 refine⟨kG (gG ss),aw rfl (dq (ds:=ss.map .str) ?_ (eG ss) (ay ?_)),?_,?_⟩
 ·exact hk ▸ G
 ·have:ss.length<64:=by omega
  simp[this]
 ·rw[(fB _).length_eq];exact vR (qS ss) M
 ·intro s hs;exact O s (Am ((fB _).mem_iff.mp hs))
def EF {af:LD}(g:∀r∈af,∃k,pZ k r)(hl:af.length<=60):∃n:Nat,iE [.tup af]=some (.int n,false)/\n<=6:=by
 obtain⟨ρ',e,zs,v,rfl,hz,G⟩:=gI (tg:=dF 2) (g:=jZ) (λi ρ=>∃(zs:LS)(v:OB),ρ=[some (.tup af,false),some (.lst (zs.map .str),true),v]/\zs.length<=2*i/\∀z∈zs,z∈P6) af
  [some (.tup af,false),some (.lst [],true),none] ⟨[],none,rfl,by simp,by simp⟩ (by
   rintro i d ρ hd ⟨zs,v,rfl,hz,G⟩;have hi:=(vV hd).1;obtain⟨k,T⟩:=g d (vL hd);obtain⟨ss,hp,U,M⟩:=EE T;have hsz:(zs.map D.str).length+(ss.map D.str).length<=sizeLine:=fu (by simp;omega);refine⟨_,[some (.tup af,false),some (.lst ((zs++ss).map .str),true),some (d,false)],rfl,.inl ?_,zs++ss,some (d,false),rfl,by simp;omega,?_⟩
   ·have hv:fA gK (ag (am 2) aj) [some (.tup af,false),some (.lst (zs.map .str),true),some (d,false)]=some (.lst (ss.map .str),true):=bA (ds:=[d]) rfl hp;show FX 1 (fA gK (ag (am 2) aj)) [some (.tup af,false),some (.lst (zs.map .str),true),some (d,false)]=_;simp only[FX,getElem?_cons_succ,List.getElem?_cons_zero,hv,vJ];rw[if_pos ⟨trivial,eG ss,hsz⟩];simp
   ·intro z O;rcases mem_append.mp O with h|h
    ·exact G z h
    ·exact M z h)
 refine⟨(gG zs).length,aw rfl (dq (ds:=[]) (by simp[sizeLine]) rfl (ft (hU (ds:=af) (by simp[gP]) e) (ay (Dt (x:=.lst (zs.map .str)) (b:=false) rfl ?_)))),?_⟩
 ·have:zs.length<4000:=by omega
  simp only[mU,zK,vJ,if_pos this]
 ·exact vR (An (gG zs) P6 (tF zs [] nodup_nil) λz hz=>G z (Am hz)) (by decide)
def BA {af:LD}(g:Ak af){i:Nat}(hi:i<af.length):jN [.tup af,.int i]=some (.bl false,false):=by
 obtain⟨r,O⟩:∃r,af[i]? = some r:=⟨_,vU hi⟩;have ha:=bG O;have T:=g.1;have G:∀ρ:DL.Env,ρ[0]? = some (some (.tup af,false))->ρ[1]? = some (some (.int i,false))->f2 bF (am 0) (am 1) ρ=some (r,false):=λρ h0 h1=>by simp[h0,h1,ha]
 obtain⟨n,hn,U⟩:=EF (af:=af.take (i+1)) (λx hx=>g.mem (List.mem_of_mem_take hx)) (by simp;omega);have M:=Ah af (i+1);rw[Int.natCast_add]at M;refine aw rfl (aD (fW (p:=false) (q:=false) (dB (b:=false) (by simp[iW];omega)) λ_=>bX (p:=true) (dB (b:=false) (bA (ds:=[r]) (aQ (G _ rfl rfl) rfl) (Ky (g.2 i r O))))) (ay ((lS (p:=false) (q:=false) (b1:=false) (bA (ds:=[.tup (af.take i),r]) (aQ (d:=.tup (af.take i)) (b:=false) (by simp[Ah]) (aQ (G _ rfl rfl) rfl)) (ED g O)) λ_=>c9 (x:=.int n) (y:=.int 20) (b1:=false) (b2:=false) (bA (ds:=[.tup (af.take (i+1))]) (aQ (d:=.tup (af.take (i+1))) (b:=false) (by simp;exact M) rfl) hn) rfl (by simp;omega)).trans rfl)))
def Ao {af:LD}(g:Ak af)(hf:bB af=true)(d:D)(hd:d=.lst af\/d=.tup af):jl [d]=some (.tup af,false):=by
 have hl:=g.1;obtain⟨ρ',e,v,rfl⟩:=zo (tg:=dF 2) (g:=kW) af.length (λi ρ=>∃v:OB,ρ=[some (d,false),some (.tup af,false),v])
  [some (d,false),some (.tup af,false),none] ⟨none,rfl⟩ (by
   rintro i ρ hi ⟨v,rfl⟩;exact⟨_,_,rfl,.inl (Bk (dB (b:=false) (bA (ds:=[.tup af,.int i]) rfl (BA g hi))) rfl),some (.int i,false),rfl⟩)
 refine aw rfl (aD (bX (p:=true) (dB (b:=false) (bA (ds:=[d,.tup [.ty "list",.ty "tuple"]]) (aQ rfl (aQ (d:=.tup [.ty "list",.ty "tuple"]) (b:=false) (by simp[sizeLine]) rfl)) ?_))) (rK (d:=.tup af) (b:=false) (bA (ds:=[d]) rfl ?_) (by simp[hf]) (ft (zq (vj (j:=af.length) (b:=false) (by simp) (by omega)) e) (qp rfl))))
 ·rcases hd with rfl|rfl<;>simp
 ·rcases hd with rfl|rfl<;>simp
end Lw
namespace Lw
open PySem PySem.Spec DL L2
def BB {a b:Int}(ha : -18446744073709551616<a/\a<18446744073709551616)(hb : -18446744073709551616<b/\b<18446744073709551616):tP (.int a) (.int b)=some (.int (a*b),false):=by simp[ha,hb]
def oS (ns:LI)(j:Nat):∃c:Int,bU [.lst (ns.map .int),.int j]=sI c:=by
 have t:aV (f2 EO (am 1) (fA dJ (fV 0 aj))) [sL (ns.map .int),sI j]=some (decide (j<ns.length)):=dQ (bR (.int j) (.int ns.length) rfl (aL [.lst (ns.map .int)] rfl (by simp)) (by simp));by_cases h:j<ns.length
 ·rw[As h]at t;exact⟨_,aw rfl (bw t (ay (bR (.lst (ns.map .int)) (.int j) rfl rfl (xD (by omega) (by simpa using h)))))⟩
 ·rw[Qn h]at t;exact⟨0,aw rfl (aD t (ay rfl))⟩
def oV (c:Int)(s m:Nat)(hs:s<=100)(hm:m<=100):∃xs:LI,fJ [.int c,.int s,.int m]=some (.lst (xs.map .int),true)/\xs.length=m/\∀x∈xs,0<=x/\x<2147483647:=by
 let E:LI->Int->OB->DL.Env:=λxs x v=>[some (.int c,false),some (.int s,false),some (.int m,false),some (.lst (xs.map .int),true),some (.int x,false),v];have U:=mod_lt (x:=c) (m:=2147483647) (by decide);obtain⟨M,O⟩:∃M,(c % 2147483647*48271+(s:Int)*(s:Int)*69621+11) % 2147483647=M:=⟨_,rfl⟩;have T:=mod_lt (x:=c % 2147483647*48271+(s:Int)*(s:Int)*69621+11) (m:=2147483647) (by decide);rw[O]at T;obtain⟨ρ',e,xs,x,v,rfl,hl,hx,G⟩:=zo (tg:=dF 5) (g:=pJ) m (λi ρ=>∃xs x v,ρ=E xs x v/\xs.length=i/\(0<=x/\x<2147483647)/\∀y∈xs,0<=y/\y<2147483647) (E [] M none) ⟨[],M,none,rfl,rfl,T,by simp⟩ (by
  rintro i ρ hi ⟨xs,x,v,rfl,hl,hx,G⟩;obtain⟨y,hy⟩:∃y,(x*x+48271*x+(i:Int)+(s:Int)) % 2147483647=y:=⟨_,rfl⟩;have hb:=mod_lt (x:=x*x+48271*x+(i:Int)+(s:Int)) (m:=2147483647) (by decide);rw[hy]at hb;refine⟨E xs x (some (.int i,false)),E (xs++[y]) y (some (.int i,false)),rfl,.inl (rK (d:=.int y) (b:=false) ?_ rfl ?_),_,_,_,rfl,by rw[uZ,length_singleton,hl],hb,?_⟩
  ·refine c9 (x:=.int (x*x+48271*x+(i:Int)+(s:Int))) (y:=.int 2147483647) (b1:=false) (b2:=false) (c9 (x:=.int (x*x+48271*x+(i:Int))) (y:=.int s) (b1:=false) (b2:=false) (c9 (x:=.int (x*x+48271*x)) (y:=.int i) (b1:=false) (b2:=false) (c9 (x:=.int (x*x)) (y:=.int (48271*x)) (b1:=false) (b2:=false) (c9 (x:=.int x) (y:=.int x) (b1:=false) (b2:=false) rfl rfl (BB (by omega) (by omega))) (c9 (x:=.int 48271) (y:=.int x) (b1:=false) (b2:=false) rfl rfl (BB (by omega) (by omega))) rfl) rfl rfl) rfl rfl) rfl ?_;rw[<-hy];rfl
  ·refine(xC (ds:=xs.map .int) (d:=.int y) (b:=false) rfl rfl rfl (eA (by rw[vI];omega))).trans ?_;simp[E]
  ·intro z hz;rcases mem_append.mp hz with h|h
   ·exact G z h
   ·rw[uT h];exact hb)
 refine⟨xs,aw rfl (dq (ds:=[]) rfl rfl (rK (d:=.int M) (b:=false) ?_ rfl (ft (zq (vj (j:=m) (b:=false) rfl (by omega)) e) (qp rfl)))),hl,G⟩;refine c9 (x:=.int (c % 2147483647*48271+(s:Int)*(s:Int)*69621+11)) (y:=.int 2147483647) (b1:=false) (b2:=false) (c9 (x:=.int (c % 2147483647*48271+(s:Int)*(s:Int)*69621)) (y:=.int 11) (b1:=false) (b2:=false) (c9 (x:=.int (c % 2147483647*48271)) (y:=.int ((s:Int)*(s:Int)*69621)) (b1:=false) (b2:=false) (c9 (x:=.int (c % 2147483647)) (y:=.int 48271) (b1:=false) (b2:=false) (c9 (x:=.int c) (y:=.int 2147483647) (b1:=false) (b2:=false) rfl rfl rfl) rfl (BB (by omega) (by omega))) (c9 (x:=.int ((s:Int)*(s:Int))) (y:=.int 69621) (b1:=false) (b2:=false) (c9 (x:=.int s) (y:=.int s) (b1:=false) (b2:=false) rfl rfl (BB (by omega) (by omega))) rfl (BB ?_ (by omega))) rfl) rfl rfl) rfl ?_
 ·have h1:(s:Int)*(s:Int)<=100*100:=Int.mul_le_mul (by omega) (by omega) (by omega) (by omega);have h2:0<=(s:Int)*(s:Int):=Int.mul_nonneg (by omega) (by omega);omega
 ·rw[<-O];rfl
def Rc (a b:Int):dw (.int a) (.int b)=some (.bl (decide (a=b)),false):=by simp
def Qb (a:Int){m:Int}(h:0<m):bY (.int a) (.int m)=some (.int (a % m),false):=by simp[h]
def Qc (a:Int){m:Int}(h:0<m)(h2:m<1073741824):jq (.int a) (.int m)=some (.int (a / m),false):=by simp[h,h2]
section
variable {xs:LI}(hl:8<=xs.length\/xs.length=6) {ρ:DL.Env}{v:Nat}{b:Bool}(h:ρ[v]? = some (some (.lst (xs.map .int),b)))
include hl h
theorem Ur (i:Nat)(hi:i<6\/i<8/\8<=xs.length):cx v (i:Int) ρ=sI (xs.getD i 0):=by
 refine c9 (x:=.lst (xs.map .int)) (y:=.int i) (b1:=false) (b2:=false) (by simp[h]) rfl ?_;have:=xD (xs:=xs) (i:=(i:Int)) (by omega) (by simp;omega);simpa using this
theorem Ii (i:Nat)(hi:i<6\/i<8/\8<=xs.length){m:Int}(hm:0<m):f2 bY (cx v (i:Int)) (fI m) ρ=sI (xs.getD i 0 % m):=bR (.int (xs.getD i 0)) (.int m) (Ur hl h i hi) rfl (Qb _ hm)
theorem Qd (i:Nat)(hi:i<6\/i<8/\8<=xs.length){m:Int}(hm:0<m)(h2:m<1073741824):f2 jq (cx v (i:Int)) (fI m) ρ=sI (xs.getD i 0 / m):=bR (.int (xs.getD i 0)) (.int m) (Ur hl h i hi) rfl (Qc _ hm h2)
end
def im {f:FE}{ρ:DL.Env}{a m:Int}(e:f ρ=sI a)(h:0<m):f2 bY f (fI m) ρ=sI (a % m):=bR (.int a) (.int m) e rfl (Qb a h)
noncomputable def L3:List (Int×OI):=(List.range 4).flatMap λ(s:Nat)=>((s:Int),none)::(List.range 9).map λ(j:Nat)=>((s:Int),some ((s:Int)+1+(j:Int)))
def PV (p:Str)(d:D):Bool:=PF (ii [.str p,d]) (.bl true) false
def hZ:LS->LD->Bool
 |p::ps,d::ds=>PV p d && hZ ps ds
 |_,_=>true
theorem oW:∀ {ps:LS}{ds:LD},hZ ps ds=true->∀x∈ps.zip ds,ii [.str x.1,x.2]=some (.bl true,false)
 |[],_,_,x,h=>by simp at h
 |_::_,[],_,x,h=>by simp at h
 |p::ps,d::ds,h1,x,h=>by
  have h1:=(vC _ _ ▸ h1:PV p d=true/\hZ ps ds=true);rw[zip_cons_cons]at h;rcases vP h with rfl|h
  ·exact rJ h1.1
  ·exact oW h1.2 x h
def aR {p:Str}{d:D}{ps:LS}{ds:LD}(h:PV p d=true)(r:hZ ps ds=true):hZ (p::ps) (d::ds)=true:=by unfold hZ;rw[h,r];rfl
def jU:∀n:_root_.Fin 10,PV "day" (.int (n.val:Int))=true:=by decide +kernel
def Du:∀n:_root_.Fin 17,PV "of" (.int (n.val:Int))=true:=by decide +kernel
def NA:∀n:_root_.Fin 4,PV "further" (.int (n.val:Int))=true:=by decide +kernel
def NB:∀m∈[1,2,3,7],PV "matters" (.int ((m:Nat):Int))=true:=by decide +kernel
def HP:∀z∈P6,(PV "by" (.str z) && PV "person" (.str z) && PV "whom" (.str z))=true:=by decide +kernel
def Ap:∀x∈L3,PV "stretch" (jS x)=true:=by decide +kernel
def Qe:∀c:_root_.Fin 3,PV "changes" (.tup [.tup [.int (c.val:Int),.str "c"]])=true:=by decide +kernel
def NC:∀m∈[1,2,3,7],m∈MS:=by decide
def tG {z:Str}(h:z∈P6):PV "by" (.str z)=true:=by have:=HP z h;simp only[vC]at this;exact this.1.1
def HQ {z:Str}(h:z∈P6):PV "person" (.str z)=true:=by have:=HP z h;simp only[vC]at this;exact this.1.2
def L4 {z:Str}(h:z∈P6):PV "whom" (.str z)=true:=by have:=HP z h;simp only[vC]at this;exact this.2
def Us:fL ("office" : Str)=false:=by decide +kernel
def Op:fL ("matters" : Str)=false:=by decide +kernel
def Ut:fL ("further" : Str)=false:=by decide +kernel
def Ij:fL ("day" : Str)=false:=by decide +kernel
def Re:fL ("person" : Str)=true:=by decide +kernel
def ND:fL ("by" : Str)=true:=by decide +kernel
def Qf:fL ("stretch" : Str)=false:=by decide +kernel
def K1:fL ("whom" : Str)=true:=by decide +kernel
def Qg:fL ("pieces" : Str)=false:=by decide +kernel
def K2:fL ("of" : Str)=false:=by decide +kernel
def Qh:fL ("changes" : Str)=false:=by decide +kernel
def Ik {k day:Nat}{h:Int}{kind:Str}{r:LD}(parts ss:LS)(hc:mi bL (.str kind)=some (.tup (parts.map .str),false))(hl:parts.length=(D.int (day:Int)::r).length)(hp:hZ parts (.int (day:Int)::r)=true)(hk:oR (parts.zip (.int (day:Int)::r))=ss.map .str)(O:∀s∈ss,s∈P6)(hf:(r.all λd=>b8 d && !AG d)=true)(hd:(day:Int)<=h)(h2:decide (ss.length<=2)=true:=by rfl)(G:decide (r.length<=9)=true:=by rfl)(M:(decide (kind = "root") || decide (kind = "chosen"))=false:=by decide +kernel)(hi:mq bL (.str kind) (.str "day")=sI 0:=by exact cM):DeedG k h kind (.int (day:Int)::r) :=
 have M:=Bool.or_eq_false_iff.mp M
 ⟨⟨parts,ss,hc,hl,oW hp,hk,Qs h2,O⟩,by have:=Qs G;rw[vE];omega,λd hd=>by
  rcases vP hd with rfl|hd
  ·exact⟨rfl,rfl⟩
  ·have:=uR hf d hd;rw[vC]at this;exact⟨this.1,by simpa using this.2⟩,.inr ⟨of_decide_eq_false M.1,⟨day,_,rfl,hd,by omega,λe=>absurd e (of_decide_eq_false M.2)⟩,hi⟩⟩
def Aq (x:Int×OI):(b8 (jS x) && !AG (jS x))=true:=by rw[lq];rfl
structure Dw (k day:Nat)(kind:Str)(ax:List D):Prop where
 dd:Dd kind ax
 g:∀h:Int,(day:Int)<=h->DeedG k h kind ax
 w:∀h:Int,xU (row h kind ax)
 nr:decide (kind = "root")=false
 q:∀h:Int,Rq (row h kind ax)
def now {kind:Str}{ax:LD}(h:Int)(e:(decide (kind = "paper") || decide (kind = "like"))=false):xU (row h kind ax):=λz=>by
 have e:=Bool.or_eq_false_iff.mp e;rcases z with z|z
 ·exact absurd z (of_decide_eq_false e.1)
 ·exact absurd z (of_decide_eq_false e.2)
section
variable {k day n:Nat}{by_ ET:Str}(hd:day<10) (hb:by_∈P6)
include hd hb
theorem K3 (kind:Str)(hk:kind = "lost" \/ kind = "found"):Dw k day kind [.int (day:Int),.str by_]:=by
 refine⟨.three kind hk _ _,λh hh=>?_,λh=>now h (by rcases hk with rfl|rfl<;>decide +kernel),by rcases hk with rfl|rfl<;>decide +kernel,λh=>.non _ (by show kind∉bN;rcases hk with rfl|rfl<;>decide +kernel)⟩
 rcases hk with rfl|rfl
 ·exact Ik ["day","person"] [by_] cM rfl (aR (jU ⟨day,hd⟩) (aR (HQ hb) rfl)) (by simp[oR,Ij,Re]) (by simpa using hb) rfl hh
 ·exact Ik ["day","person"] [by_] cM rfl (aR (jU ⟨day,hd⟩) (aR (HQ hb) rfl)) (by simp[oR,Ij,Re]) (by simpa using hb) rfl hh
theorem HR (hn:n<17)(kind:Str)(hk:kind = "copy" \/ kind = "call"):Dw k day kind [.int (day:Int),.str by_,.int (n:Int)]:=by
 refine⟨.copy kind hk _ _ _,λh hh=>?_,λh=>now h (by rcases hk with rfl|rfl<;>decide +kernel),by rcases hk with rfl|rfl<;>decide +kernel,λh=>by
  rcases hk with rfl|rfl
  ·exact .copy h _ n rfl
  ·exact .non _ (by show("call" : Str)∉bN;decide +kernel)⟩
 rcases hk with rfl|rfl
 ·exact Ik ["day","by","of"] [by_] cM rfl (aR (jU ⟨day,hd⟩) (aR (tG hb) (aR (Du ⟨n,hn⟩) rfl))) (by simp[oR,Ij,ND,K2]) (by simpa using hb) rfl hh
 ·exact Ik ["day","by","of"] [by_] cM rfl (aR (jU ⟨day,hd⟩) (aR (tG hb) (aR (Du ⟨n,hn⟩) rfl))) (by simp[oR,Ij,ND,K2]) (by simpa using hb) rfl hh
theorem K4 (G:ET∈P6){m f:Nat}(hm:m∈[1,2,3,7]){x:Int×OI}(hx:x∈L3)(hf:f<4):Dw k day "leave" [.int (day:Int),.str by_,.str ET,.int (m:Int),jS x,.int (f:Int)] :=
 ⟨.leave _ _ _ m (NC m hm) x _,λh hh=>Ik ["day","by","person","matters","stretch","further"] [by_,ET] cM rfl (aR (jU ⟨day,hd⟩) (aR (tG hb) (aR (HQ G) (aR (NB m hm) (aR (Ap x hx) (aR (NA ⟨f,hf⟩) rfl)))))) (by simp[oR,Op,Ut,Ij,Re,ND,Qf]) (by simp[hb,G]) (by simp only[all_cons,Aq];rfl) hh,λh=>now h (by decide +kernel),by decide +kernel,λh=>.non _ (by show("leave" : Str)∉bN;decide +kernel)⟩
theorem K5 (O:ET∈P6){w:D}(hw:w=.non\/w=.str ET){x:Int×OI}(hx:x∈L3){v:D}{ps:LS}(T:v=.tup (ps.map .str))(hv:ps=[("aa" : Str)]\/ps=[("aa" : Str),"b"]\/ps=[("aa" : Str),"b","cc"]):Dw k day "paper" [.int (day:Int),.str by_,.int 1,jS x,w,v]:=by
 subst T;have M:PV "pieces" (.tup (ps.map .str))=true:=by rcases hv with rfl|rfl|rfl<;>decide +kernel
 have G:b8 (.tup (ps.map .str))=true/\AG (.tup (ps.map .str))=false/\there (.tup (ps.map .str))=true/\aH 5 (.tup (ps.map .str))=true:=by rcases hv with rfl|rfl|rfl<;>exact⟨rfl,rfl,rfl,rfl⟩
 refine⟨.paper "paper" (.inl rfl) _ _ 1 (by decide) x [w,.tup (ps.map .str)] (by rcases hw with rfl|rfl<;>simp[G.1]) (by rcases hw with rfl|rfl<;>simp[G.2.2.2,aH]),λh hh=>?_,λh _=>⟨x,w,_,_,_,_,1,_,.inl rfl,rfl,hw.imp id λe=>⟨_,e⟩⟩,by decide +kernel,λh=>.paper h _ ps rfl (by rcases hv with rfl|rfl|rfl<;>decide)⟩
 rcases hw with rfl|rfl
 ·exact Ik ["day","by","matters","stretch","whom","pieces"] [by_] cM rfl (aR (jU ⟨day,hd⟩) (aR (tG hb) (aR (by decide +kernel) (aR (Ap x hx) (aR (by decide +kernel) (aR M rfl)))))) (by simp[oR,Op,Ij,ND,Qf,K1,Qg]) (by simpa using hb) (by simp only[all_cons,Aq,G.1,G.2.1];rfl) hh
 ·exact Ik ["day","by","matters","stretch","whom","pieces"] [by_,ET] cM rfl (aR (jU ⟨day,hd⟩) (aR (tG hb) (aR (by decide +kernel) (aR (Ap x hx) (aR (L4 O) (aR M rfl)))))) (by simp[oR,Op,Ij,ND,Qf,K1,Qg]) (by simp[hb,O]) (by simp only[all_cons,Aq,G.1,G.2.1];rfl) hh
theorem NE (M:ET∈P6){w:D}(hw:w=.non\/w=.str ET){x:Int×OI}(hx:x∈L3)(hn:n<17){c:Nat}(hc:c<3):Dw k day "like" [.int (day:Int),.str by_,.int 1,jS x,w,.int (n:Int),.tup [.tup [.int (c:Int),.str "c"]]]:=by
 have G:PV "changes" (.tup [.tup [.int (c:Int),.str "c"]])=true:=Qe ⟨c,hc⟩;refine⟨.paper "like" (.inr rfl) _ _ 1 (by decide) x [w,.int (n:Int),.tup [.tup [.int (c:Int),.str "c"]]] (by rcases hw with rfl|rfl<;>simp) (by rcases hw with rfl|rfl<;>simp[aH]),λh hh=>?_,λh _=>⟨x,w,_,_,_,_,1,_,.inr rfl,rfl,hw.imp id λe=>⟨_,e⟩⟩,by decide +kernel,λh=>.like h _ n c "c" rfl rfl⟩
 rcases hw with rfl|rfl
 ·exact Ik ["day","by","matters","stretch","whom","of","changes"] [by_] cM rfl (aR (jU ⟨day,hd⟩) (aR (tG hb) (aR (by decide +kernel) (aR (Ap x hx) (aR (by decide +kernel) (aR (Du ⟨n,hn⟩) (aR G rfl))))))) (by simp[oR,Op,Ij,ND,Qf,K1,K2,Qh]) (by simpa using hb) (by simp only[all_cons,Aq];rfl) hh
 ·exact Ik ["day","by","matters","stretch","whom","of","changes"] [by_,ET] cM rfl (aR (jU ⟨day,hd⟩) (aR (tG hb) (aR (by decide +kernel) (aR (Ap x hx) (aR (L4 M) (aR (Du ⟨n,hn⟩) (aR G rfl))))))) (by simp[oR,Op,Ij,ND,Qf,K1,K2,Qh]) (by simp[hb,M]) (by simp only[all_cons,Aq];rfl) hh
end
noncomputable def P3:LS:=[("ann" : Str),"bob","cid"]
def L5:∀z∈P3,z∈P6:=by decide +kernel
abbrev eD (xs:LI)(k day:Nat)(G M:Str)(st:Int×OI)(n:Nat)(O:Int):DL.Env:=[sL (xs.map .int),sI k,sI day,lT (P3.map .str),sS G,sS M,some (jS st,false),sI n,sI O]
def L6 {s j:Nat}(hs:s<4)(hj:j<9):(((s:Int),none):Int×OI)∈L3/\(((s:Int),some ((s:Int)+1+(j:Int))):Int×OI)∈L3:=⟨List.mem_flatMap.mpr ⟨s,mem_range.mpr hs,mX ..⟩,List.mem_flatMap.mpr ⟨s,mem_range.mpr hs,mZ _ (uS ⟨j,mem_range.mpr hj,rfl⟩)⟩⟩
section
variable {xs:LI}(hl:xs.length=9) (k:Nat) (hk:1<=k/\k<=13) (day:Nat)
include hl hk
theorem HS:∃M O,∃st,∃n:Nat,∃e:Int,(M∈P6/\O∈P6/\st∈L3/\n<17)/\∀ {T:FS}{res:Option Res},T (eD xs k day M O st n e)=res ->
  (aA (br 3 (fA cw (ag (fS "ann") (ag (fS "bob") (ag (fS "cid") aj)))))
  (aA (br 4 (f2 bF (am 3) (f2 bY (f2 bY (cx 0 2) (fI 4)) (fI 3))))
  (aA (br 5 (f2 bF (am 3) (f2 bY (cx 0 3) (fI 3))))
  (aA (br 6 (fA bo (ag (f2 bY (cx 0 5) (fI 4)) (ag (f2 bF (fA cw (ag (fC .non) (ag (f2 eQ (f2 eQ (f2 bY (cx 0 5) (fI 4)) (fI 1)) (f2 bY (f2 jq (cx 0 5) (fI 4)) (fI 9))) aj))) (f2 bY (f2 jq (cx 0 5) (fI 40)) (fI 2))) aj))))
  (aA (br 7 (fA FF (ag (fI 0) (ag (f2 eQ (f2 qJ (f2 qJ (am 1) (fI 1)) (f2 bY (cx 0 6) (fI 5))) (f2 tP (fA xh (ag (f2 dw (f2 bY (f2 jq (cx 0 6) (fI 5)) (fI 8)) (fI 0)) aj)) (fI 3))) aj))))
  (aA (br 8 (f2 bY (cx 0 1) (fI 12))) T)))))) ([sL (xs.map .int),sI k,sI day,none,none,none,none,none,none])=res:=by
 have G:8<=xs.length\/xs.length=6:=by omega
 have m2:=mod_lt (x:=xs.getD 2 0 % 4) (m:=3) (by decide);have p:=mod_lt (x:=xs.getD 3 0) (m:=3) (by decide);have q:=mod_lt (x:=xs.getD 5 0) (m:=4) (by decide);have r:=mod_lt (x:=xs.getD 5 0 / 4) (m:=9) (by decide);have t:=mod_lt (x:=xs.getD 5 0 / 40) (m:=2) (by decide);have u:=mod_lt (x:=xs.getD 6 0) (m:=5) (by decide);have h4:P3.length=3:=rfl;obtain⟨M,hb,f⟩:=Bv (zs:=P3) (i:=xs.getD 2 0 % 4 % 3) (by omega) (by omega);obtain⟨O,g,l⟩:=Bv (zs:=P3) (i:=xs.getD 3 0 % 3) (by omega) (by omega);obtain⟨s,hs⟩:∃s:Nat,xs.getD 5 0 % 4=s:=⟨(xs.getD 5 0 % 4).toNat,by omega⟩;obtain⟨j,hj⟩:∃j:Nat,xs.getD 5 0 / 4 % 9=j:=⟨(xs.getD 5 0 / 4 % 9).toNat,by omega⟩;obtain⟨st,U,a⟩:∃st∈L3,st.1=(s:Int)/\bF (.lst [.non,.int ((s:Int)+1+(j:Int))]) (.int (xs.getD 5 0 / 40 % 2))=some (uD st.2,false):=by
  obtain⟨h1,h2⟩:=L6 (s:=s) (j:=j) (by omega) (by omega);have:xs.getD 5 0 / 40 % 2=0\/xs.getD 5 0 / 40 % 2=1:=by omega
  rcases this with h|h<;>rw[h]
  ·exact⟨_,h1,rfl,rfl⟩
  ·exact⟨_,h2,rfl,rfl⟩
 obtain⟨c,hc,o⟩:∃c:Int,(0<=c/\c<=3)/\∀ρ:DL.Env,ρ[0]? = some (sL (xs.map .int))->f2 tP (fA xh (ag (f2 dw (f2 bY (f2 jq (cx 0 6) (fI 5)) (fI 8)) (fI 0)) aj)) (fI 3) ρ=sI c:=by
  have d:∀ρ:DL.Env,ρ[0]? = some (sL (xs.map .int))->f2 dw (f2 bY (f2 jq (cx 0 6) (fI 5)) (fI 8)) (fI 0) ρ=sO (decide (xs.getD 6 0 / 5 % 8=0)):=λρ h0=>bR (.int (xs.getD 6 0 / 5 % 8)) (.int 0) (im (Qd (b:=false) G h0 6 (by omega) (by decide) (by decide)) (by decide)) rfl (Rc _ _);cases hd:decide (xs.getD 6 0 / 5 % 8=0) with
  |true=>exact⟨3,by decide,λρ h0=>bR (.int 1) (.int 3) (aL [.bl true] (ce ((d ρ h0).trans (by rw[hd])) rfl) rfl) rfl (BB (by decide) (by decide))⟩
  |false=>exact⟨0,by decide,λρ h0=>bR (.int 0) (.int 3) (aL [.bl false] (ce ((d ρ h0).trans (by rw[hd])) rfl) rfl) rfl (BB (by decide) (by decide))⟩
 obtain⟨n,hn,en⟩:∃n:Nat,n<17/\FF [.int 0,.int ((k:Int) - 1 - xs.getD 6 0 % 5+c)]=sI n:=by
  refine⟨((if(k:Int) - 1 - xs.getD 6 0 % 5+c > 0 then (k:Int) - 1 - xs.getD 6 0 % 5+c else 0)).toNat,by split<;>omega,?_⟩
  show some (D.int _,false)=_;rw[show(((if(k:Int) - 1 - xs.getD 6 0 % 5+c > 0 then (k:Int) - 1 - xs.getD 6 0 % 5+c else 0).toNat:Nat):Int)=(if(k:Int) - 1 - xs.getD 6 0 % 5+c > 0 then (k:Int) - 1 - xs.getD 6 0 % 5+c else 0) by split<;>omega]
 refine⟨M,O,st,n,xs.getD 1 0 % 12,⟨L5 _ hb,L5 _ g,U,hn⟩,λ{T res} hT=>?_⟩;refine dq (ds:=P3.map .str) (aL [.str "ann",.str "bob",.str "cid"] rfl (fK _ (by simp))) (eG _) ?_;refine kO (.str M) (bR (.lst (P3.map .str)) (.int (xs.getD 2 0 % 4 % 3)) rfl (im (Ii (b:=false) G rfl 2 (by omega) (by decide)) (by decide)) f) rfl ?_;refine kO (.str O) (bR (.lst (P3.map .str)) (.int (xs.getD 3 0 % 3)) rfl (Ii (b:=false) G rfl 3 (by omega) (by decide)) l) rfl ?_;refine kO (jS st) (aL [.int (s:Int),uD st.2] (ce (hs ▸ Ii (b:=false) G rfl 5 (by omega) (by decide)) (ce (c9 (x:=.lst [.non,.int ((s:Int)+1+(j:Int))]) (y:=.int (xs.getD 5 0 / 40 % 2)) (b1:=true) (b2:=false) (aL [.non,.int ((s:Int)+1+(j:Int))] (ce rfl (ce (bR (.int ((s:Int)+1)) (.int (j:Int)) (bR (.int (s:Int)) (.int 1) (hs ▸ Ii (b:=false) G rfl 5 (by omega) (by decide)) rfl rfl) (hj ▸ im (Qd (b:=false) G rfl 5 (by omega) (by decide) (by decide)) (by decide)) rfl) rfl)) (fK _ (by simp))) (im (Qd (b:=false) G rfl 5 (by omega) (by decide) (by decide)) (by decide)) a.2) rfl)) ((cG _ (by simp)).trans (by rw[<-a.1];rfl))) (lq _) ?_;refine kO (.int n) (aL [.int 0,.int ((k:Int) - 1 - xs.getD 6 0 % 5+c)] (ce rfl (ce (bR (.int ((k:Int) - 1 - xs.getD 6 0 % 5)) (.int c) (bR (.int ((k:Int) - 1)) (.int (xs.getD 6 0 % 5)) (bR (.int k) (.int 1) rfl rfl rfl) (Ii (b:=false) G rfl 6 (by omega) (by decide)) rfl) (o _ rfl) rfl) rfl)) en) rfl ?_;exact kO (.int (xs.getD 1 0 % 12)) (Ii (b:=false) G rfl 1 (by omega) (by decide)) rfl hT
theorem K6 (hd:day<10):∃kind ax,su [.lst (xs.map .int),.int k,.int day]=sT (.str kind::ax)/\Dw k day kind ax:=by
 have l:8<=xs.length\/xs.length=6:=by omega
 obtain⟨M,G,st,n,T,⟨hb,e,p,hn⟩,pre⟩:=HS hl k hk day;obtain⟨E,O⟩:∃E,E=eD xs k day M G st n T:=⟨_,rfl⟩;rw[<-O]at pre;have tl:∀z:Int,aV (f2 EO (am 8) (fI z)) E=some (decide (T<z)):=λz=>by rw[O];exact dQ (bR (.int T) (.int z) rfl rfl rfl)
 have b:∀z:Int,aV (f2 dw (am 8) (fI z)) E=some (decide (T=z)):=λz=>by rw[O];exact dQ (bR (.int T) (.int z) rfl rfl (Rc _ _))
 have h0:E[0]? = some (some (.lst (xs.map .int),false)):=by rw[O];rfl
 by_cases q:T=0
 ·have r:=mod_lt (x:=xs.getD 7 0) (m:=3) (by decide);obtain⟨f,hf⟩:∃f:Nat,xs.getD 7 0 % 3=f:=⟨(xs.getD 7 0 % 3).toNat,by omega⟩;have a:f2 bY (cx 0 7) (fI 3) E=sI (f:Int):=hf ▸ Ii l h0 7 (by omega) (by decide);subst O;exact⟨"leave",_,aw rfl (pre (bw ((b 0).trans (by rw[As q])) (ay (aL [.str "leave",.int day,.str M,.str G,.int (7:Nat),jS (((0:Nat):Int),none),.int (f:Int)] (ce rfl (ce rfl (ce rfl (ce rfl (ce rfl (ce (aL [.int 0,.non] rfl (cG _ (by simp))) (ce a rfl))))))) (cG _ (by simp)))))),K4 hd hb e (m:=7) (by decide) (L6 (s:=0) (j:=0) (by decide) (by decide)).1 (by omega)⟩
 have d:=(b 0).trans (by rw[Qn q]);by_cases t:T<4
 ·obtain⟨w,hw,D⟩:∃w,(w=.non\/w=.str G)/\f2 bF (fA cw (ag (fC .non) (fV 5 aj))) (f2 bY (cx 0 7) (fI 2)) E=some (w,false):=by
   have r:=mod_lt (x:=xs.getD 7 0) (m:=2) (by decide);have a:=Ii l h0 7 (by omega) (m:=2) (by decide);have u:fA cw (ag (fC .non) (fV 5 aj)) E=lT [.non,.str G]:=by rw[O];exact aL [.non,.str G] rfl (fK _ (by simp))
   have:xs.getD 7 0 % 2=0\/xs.getD 7 0 % 2=1:=by omega
   rcases this with h|h<;>rw[h]at a
   ·exact⟨.non,.inl rfl,c9 u a rfl⟩
   ·exact⟨.str G,.inr rfl,c9 u a rfl⟩
  subst O;exact⟨"paper",_,aw rfl (pre (aD d (bw ((tl 4).trans (by rw[As t])) (ay (aL [.str "paper",.int day,.str M,.int 1,jS st,w,.tup [.str "aa",.str "b"]] (ce rfl (ce rfl (ce rfl (ce rfl (ce rfl (ce D (ce (aL [.str "aa",.str "b"] rfl (cG _ (by simp))) rfl))))))) (cG _ (by simp))))))),K5 hd hb e hw p (ps:=[("aa" : Str),"b"]) rfl (.inr (.inl rfl))⟩
 have g:=(tl 4).trans (by rw[Qn t]);by_cases v:T=4
 ·subst O;exact⟨"like",_,aw rfl (pre (aD d (aD g (bw ((b 4).trans (by rw[As v])) (ay (aL [.str "like",.int day,.str M,.int 1,jS st,.non,.int n,.tup [.tup [.int ((1:Nat):Int),.str "c"]]] (ce rfl (ce rfl (ce rfl (ce rfl (ce rfl (ce rfl (ce rfl (ce (aL [.tup [.int ((1:Nat):Int),.str "c"]] (ce (aL [.int ((1:Nat):Int),.str "c"] rfl (cG _ (by simp))) rfl) (cG _ (by simp))) rfl)))))))) (cG _ (by simp)))))))),NE hd hb e (.inl rfl) p hn (c:=1) (by decide)⟩
 have o:=(b 4).trans (by rw[Qn v]);by_cases A:T<10
 ·subst O;exact⟨"copy",_,aw rfl (pre (aD d (aD g (aD o (bw ((tl 10).trans (by rw[As A])) (ay (aL [.str "copy",.int day,.str M,.int n] rfl (cG _ (by simp))))))))),HR hd hb hn "copy" (.inl rfl)⟩
 have B:=(tl 10).trans (by rw[Qn A]);by_cases U:T=10
 ·subst O;exact⟨"call",_,aw rfl (pre (aD d (aD g (aD o (aD B (bw ((b 10).trans (by rw[As U])) (ay (aL [.str "call",.int day,.str M,.int n] rfl (cG _ (by simp)))))))))),HR hd hb hn "call" (.inr rfl)⟩
 have F:=(b 10).trans (by rw[Qn U]);have r:=mod_lt (x:=xs.getD 7 0) (m:=2) (by decide);obtain⟨kind,C,H⟩:=Bv (zs:=(["lost","found"]:LS)) (i:=xs.getD 7 0 % 2) (by show -2<=_;omega) (by show _<2;omega);have a:=Ii l h0 7 (by omega) (m:=2) (by decide);subst O;refine⟨kind,_,aw rfl (pre (aD d (aD g (aD o (aD B (aD F (ay (aL [.str kind,.int day,.str G] (ce (c9 (x:=.lst ((["lost","found"]:LS).map .str)) (y:=.int (xs.getD 7 0 % 2)) (b1:=true) (b2:=false) (aL [.str "lost",.str "found"] rfl (fK _ (by simp))) a H) rfl) (cG _ (by simp)))))))))),K3 hd e kind ?_⟩;simp only[mem_cons,not_mem_nil,or_false]at C;exact C
end
structure GR (af:List D):Prop where
 at_:∀(j:Nat) r,af[j]? = some r->pZ j r/\cq r/\xU r/\Rq r
 off:(wn af).Nodup
def GR.snoc {af:LD}(g:GR af){r:D}(G:pZ af.length r)(hk:cq r)(hw:xU r)(hq:Rq r)(M:bj r=false):GR (af++[r]):=by
 refine⟨λj q h=>?_,?_⟩
 ·by_cases hj:j<af.length
  ·rw[getElem?_append_left hj]at h;exact g.at_ j q h
  ·rw[getElem?_append_right (by omega)]at h;obtain⟨h1,h2⟩:=vV h;have:j=af.length:=by rw[length_singleton]at h1;omega
   subst this;simp only[Nat.sub_self,List.getElem_cons_zero]at h2;subst h2;exact⟨G,hk,hw,hq⟩
 ·rw[Ez,M,if_neg (by decide),uQ];exact g.off
def GR.flat {af:LD}(g:GR af):bB af=true:=c7 λd hd=>by
 obtain⟨j,hj⟩:=mem_iff_getElem?.mp hd;exact(g.at_ j d hj).2.1.flat
def king:D:=row 0 "root" [.str "king",.int (7:Nat),.int 3,.str "open"]
def ann:D:=row 0 "named" [.int (0:Nat),.str "king",.str "ann"]
def bob:D:=row 3 "named" [.int (3:Nat),.str "king",.str "bob"]
def VO:fL ("rule" : Str)=false:=by decide +kernel
def NF {k:Nat}(hk:k=0\/k=2){m f:Nat}{rl:Str}(hp:hZ ["office","matters","further","rule"] [.str (off k),.int m,.int f,.str rl]=true):pZ k (row 0 "root" [.str (off k),.int m,.int f,.str rl]) :=
 ⟨0,_,_,rfl,by decide,by decide,⟨["office","matters","further","rule"],[],cM,rfl,oW hp,by simp[oR,Us,Op,Ut,VO],by decide,by simp⟩,by simp,λd hd=>by
  simp only[mem_cons,not_mem_nil,or_false]at hd;rcases hd with rfl|rfl|rfl|rfl<;>exact⟨rfl,rfl⟩,.inl ⟨rfl,hk,_,rfl⟩⟩
def Dv (k:Nat){day:Nat}{o p:Str}(hd:day<=3)(hp:hZ ["day","office","person"] [.int (day:Int),.str o,.str p]=true)(G:p∈P6):pZ k (row day "named" [.int (day:Int),.str o,.str p]) :=
 ⟨day,_,_,rfl,by omega,by omega,Ik ["day","office","person"] [p] cM rfl hp (by simp[oR,Us,Ij,Re]) (by simpa using G) rfl (le_refl _)⟩
def K7:GR [king,ann]:=by
 refine⟨λj r h=>?_,by decide +kernel⟩;match j,h with
 |0,h=>cases h;exact⟨NF (k:=0) (.inl rfl) (by decide +kernel),⟨_,_,_,rfl,.root _ _ 7 (by decide) _⟩,now 0 (by decide +kernel),.non _ (by decide +kernel)⟩
 |1,h=>cases h;exact⟨Dv 1 (day:=0) (by decide) (by decide +kernel) (by decide +kernel),⟨_,_,_,rfl,.named _ _ _⟩,now 0 (by decide +kernel),.non _ (by decide +kernel)⟩
def Sv:GR [king,ann,bob]:=by
 refine⟨λj r h=>?_,by decide +kernel⟩;match j,h with
 |0,h=>exact K7.at_ 0 r h
 |1,h=>exact K7.at_ 1 r h
 |2,h=>cases h;exact⟨Dv 2 (day:=3) (by decide) (by decide +kernel) (by decide +kernel),⟨_,_,_,rfl,.named _ _ _⟩,now 3 (by decide +kernel),.non _ (by decide +kernel)⟩
def K8 {af:LD}(g:GR af)(h2:2<=af.length)(T:af.length<=13)(a d5:OB)(c:Int)(f i j:OB):∃r k l n,lH [a,lT af,d5,sI c,f,i,j]=some (.nx [a,lT (af++[r]),d5,sI c,k,l,n])/\GR (af++[r]):=by
 obtain⟨xs,ex,U,hx⟩:=oV c af.length 9 (by omega) (by decide);have G:8<=xs.length\/xs.length=6:=by omega
 have s:=mod_lt (x:=xs.getD 0 0) (m:=10) (by decide);have o:=mod_lt (x:=xs.getD 0 0 / 10) (m:=5) (by decide);have u:=mod_lt (x:=xs.getD 0 0 / 50) (m:=4) (by decide);obtain⟨day,M⟩:∃d:Nat,xs.getD 0 0 % 10=d:=⟨(xs.getD 0 0 % 10).toNat,by omega⟩;obtain⟨t,v,z,p⟩:∃t:Int,0<=t/\t<=4/\bF (.lst [.int 0,.int 0,.int 0,.int (xs.getD 0 0 / 10 % 5)]) (.int (xs.getD 0 0 / 50 % 4))=sI t:=by
  have:xs.getD 0 0 / 50 % 4=0\/xs.getD 0 0 / 50 % 4=1\/xs.getD 0 0 / 50 % 4=2\/xs.getD 0 0 / 50 % 4=3:=by omega
  rcases this with h|h|h|h<;>rw[h]
  ·exact⟨0,by decide,by decide,rfl⟩
  ·exact⟨0,by decide,by decide,rfl⟩
  ·exact⟨0,by decide,by decide,rfl⟩
  ·exact⟨_,o.1,by omega,rfl⟩
 obtain⟨kind,ax,ed,O⟩:=K6 U af.length ⟨by omega,T⟩ day (by omega);have e:cq (row (day+t) kind ax):=⟨_,_,_,rfl,O.dd⟩;refine⟨row (day+t) kind ax,_,_,_,dq (ds:=xs.map .int) (aL [.int c,.int af.length,.int ((9:Nat):Int)] (ce rfl (ce (aL [.lst af] rfl (by simp)) rfl)) ex) (gJ _) (kO (.int day) (M ▸ Ii G rfl 0 (by omega) (by decide)) rfl (kO (.int (day+t)) (bR (.int day) (.int t) rfl (c9 (x:=.lst [.int 0,.int 0,.int 0,.int (xs.getD 0 0 / 10 % 5)]) (y:=.int (xs.getD 0 0 / 50 % 4)) (b1:=true) (b2:=false) (aL [.int 0,.int 0,.int 0,.int (xs.getD 0 0 / 10 % 5)] (ce rfl (ce rfl (ce rfl (ce (im (Qd G rfl 0 (by omega) (by decide) (by decide)) (by decide)) rfl)))) (fK _ (by simp))) (im (Qd G rfl 0 (by omega) (by decide) (by decide)) (by decide)) p) rfl) rfl (xC (ds:=af) (d:=row (day+t) kind ax) (b:=false) rfl (aL [.int (day+t),.tup (.str kind::ax)] (ce rfl (ce (aL [.lst (xs.map .int),.int af.length,.int day] (ce rfl (ce (aL [.lst af] rfl (by simp)) rfl)) ed) rfl)) (cG _ (by simp))) e.flat (eA (by omega))))),g.snoc ⟨_,_,_,rfl,by omega,by omega,O.g _ (by omega)⟩ e (O.w _) (O.q _) O.nr⟩
def K9 (ns:LI):∃af:LD,sv [.lst (ns.map .int)]=lT af/\GR af/\af.length<=14:=by
 obtain⟨n,s⟩:=oS ns 0;obtain⟨j,u⟩:=oS ns 1;obtain⟨cs,v,w⟩:∃cs:LI,cs.length<=11/\iQ (ns.map .int) (some 2) (some 13)=cs.map .int:=by
  refine⟨(ns.drop (min 2 ns.length)).take (min 13 ns.length - min 2 ns.length),?_,?_⟩
  ·rw[length_take,length_drop];omega
  ·unfold iQ;rw[kM (by decide),kM (by decide),vI,map_take,map_drop];rfl
 have M:∀R:LD,GR R->2<=R.length->R.length<=3->∃af,GR af/\af.length<=14/\(aA (br 2 (qh (am 0) (cY (fI 2)) (cY (fI 13))))
  (aA (cO (aV (f2 dw (f2 bY (fA bU (fV 0 (ag (fI 1) aj))) (fI 4)) (fI 1))) (br 2 (f2 eQ (am 2) (fA fJ (ag (fA bU (fV 0 (ag (fI 1) aj))) (ag (fI 92) (ag (f2 qJ (fI 11) (fA dJ (fV 2 aj))) aj)))))) aN)
  (aA (Jl [2] (lL (bK (am 2)) (dF 3) lH))
  (iT 1)))) [sL (ns.map .int),lT R,none,none,none,none,none]=some (.rt (.lst af) true):=λR z h2 h4=>by
  let E:LI->DL.Env:=λcs=>[sL (ns.map .int),lT R,lT (cs.map .int),none,none,none,none];obtain⟨G,I,A⟩:∃G:LI,G.length<=11/\cO (aV (f2 dw (f2 bY (fA bU (fV 0 (ag (fI 1) aj))) (fI 4)) (fI 1))) (br 2 (f2 eQ (am 2) (fA fJ (ag (fA bU (fV 0 (ag (fI 1) aj))) (ag (fI 92) (ag (f2 qJ (fI 11) (fA dJ (fV 2 aj))) aj)))))) aN (E cs)=some (.nx (E G)):=by
   have p:fA bU (fV 0 (ag (fI 1) aj)) (E cs)=sI j:=aL [.lst (ns.map .int),.int 1] rfl u;have t:aV (f2 dw (f2 bY (fA bU (fV 0 (ag (fI 1) aj))) (fI 4)) (fI 1)) (E cs)=some (decide (j % 4=1)):=dQ (bR (.int (j % 4)) (.int 1) (im p (by decide)) rfl (Rc _ _));by_cases h:j % 4=1
   ·rw[As h]at t;obtain⟨xs,ex,J,_⟩:=oV j 92 (11 - cs.length) (by decide) (by omega);have es:f2 qJ (fI 11) (fA dJ (fV 2 aj)) (E cs)=sI ((11 - cs.length:Nat):Int):=bR (.int 11) (.int (cs.length:Int)) rfl (aL [.lst (cs.map .int)] rfl (by simp)) (by
     show some (D.int (11 - (cs.length:Int)),false)=_;rw[show(11:Int) - (cs.length:Int)=((11 - cs.length:Nat):Int) by omega])
    refine⟨cs++xs,by rw[uZ];omega,Es t ((CD (ds:=(cs++xs).map .int) (c9 (x:=.lst (cs.map .int)) (y:=.lst (xs.map .int)) (b1:=false) (b2:=true) rfl (aL [.int j,.int ((92:Nat):Int),.int ((11 - cs.length:Nat):Int)] (ce p (ce rfl (ce es rfl))) ex) ?_) (gJ _)).trans rfl)⟩;show(if(cs.map D.int).length+(xs.map D.int).length<=sizeLine then some (D.lst (cs.map D.int++xs.map D.int),true)else none)=_;rw[if_pos (fu (by simp;omega)),uW]
   ·rw[Qn h]at t;exact⟨cs,v,Bk t rfl⟩
  obtain⟨ρ',e,af,o,k,l,m,rfl,U,a⟩:=gI (tg:=dF 3) (g:=lH) (λi ρ=>∃af o k l m,ρ=[sL (ns.map .int),lT af,sL (G.map .int),o,k,l,m]/\af.length=R.length+i/\GR af) (G.map .int) [sL (ns.map .int),lT R,sL (G.map .int),none,none,none,none] ⟨R,none,none,none,none,rfl,rfl,z⟩ (by
   rintro i d ρ hd ⟨af,o,k,l,m,rfl,U,a⟩;rw[vA]at hd;obtain⟨c,B,rfl⟩:=oY hd;have hi:=(vV B).1;obtain⟨r,K,L,N,C,F⟩:=K8 a (by omega) (by omega) (sL (ns.map .int)) (sL (G.map .int)) c k l m;exact⟨_,_,rfl,.inl C,_,_,_,_,_,rfl,by rw[uZ,length_singleton,U];omega,F⟩)
  rw[vI]at U;refine⟨af,a,by omega,dq (ds:=cs.map .int) ?_ (gJ _) (ft A (ft (hU (ds:=G.map .int) rfl e) (qp rfl)))⟩;show some (D.lst (iQ (ns.map .int) (some 2) (some 13)),true)=_;rw[w]
 have q:aV (f2 dw (f2 bY (fA bU (fV 0 (ag (fI 0) aj))) (fI 4)) (fI 0)) [sL (ns.map .int),lT [king,ann],none,none,none,none,none]=some (decide (n % 4=0)):=dQ (bR (.int (n % 4)) (.int 0) (im (aL [.lst (ns.map .int),.int 0] rfl s) (by decide)) rfl (Rc _ _));have O:∀ {T:FS}{res:Option Res},T [sL (ns.map .int),lT [king,ann],none,none,none,none,none]=res->_:=λ{T res} (H:T [sL (ns.map .int),lT [king,ann],none,none,none,none,none]=res)=>dq (i:=1) (ρ:=[sL (ns.map .int),none,none,none,none,none,none]) (ds:=[king,ann]) (f:=fA cw (ag (fA bo (ag (fI 0) (ag (fA bo (ag (fS "root") (ag (fS "king") (ag (fI 7) (ag (fI 3) (ag (fS "open") aj)))))) aj))) (ag (fA bo (ag (fI 0) (ag (fA bo (ag (fS "named") (ag (fI 0) (ag (fS "king") (ag (fS "ann") aj))))) aj))) aj))) rfl K7.flat H;by_cases h:n % 4=0
 ·obtain⟨af,a,U,e⟩:=M _ Sv (by decide) (by decide);refine⟨af,aw rfl (O (ft (Es (q.trans (by rw[As h])) (xC (ds:=[king,ann]) (d:=bob) (b:=false) rfl rfl rfl (eA (by decide)))) e)),a,U⟩
 ·obtain⟨af,a,U,e⟩:=M _ K7 (by decide) (by decide);exact⟨af,aw rfl (O (aD (q.trans (by rw[Qn h])) e)),a,U⟩
def KA {ρ:DL.Env}{i:Nat}{d:D}{g:FS}(h:ρ[i]? = some (sF d)):Jl [i] g ρ=g ρ:=by
 show g (unown1 ρ i)=_;unfold unown1;rw[h]
def GR.k (G:GR af):∀r∈af,cq r:=λr h=>by obtain⟨j,hj⟩:=mem_iff_getElem?.mp h;exact(G.at_ j r hj).2.1
def GR.w (G:GR af):∀r∈af,xU r:=λr h=>by obtain⟨j,hj⟩:=mem_iff_getElem?.mp h;exact(G.at_ j r hj).2.2.1
def GR.q (G:GR af):∀r∈af,Rq r:=λr h=>by obtain⟨j,hj⟩:=mem_iff_getElem?.mp h;exact(G.at_ j r hj).2.2.2
def GR.n (G:GR af)(ae:Int):((bW (au af ae)).map (aX 0)).Nodup:=G.off.sublist (HD af ae)
def xX {af:LD}(G:af.length<=14)(ae:Int):(bV (au af ae)).length<=60:=by
 unfold bV;rw[(aZ _ _).length_eq];exact vR (vM _ _) (vR (cF af ae) (by omega))
def Sw {xs:LI}{ρ:DL.Env}{v:Nat}{b:Bool}(h:ρ[v]? = some (some (.lst (xs.map .int),b)))(i:Nat)(hi:i<xs.length):cx v (i:Int) ρ=sI (xs.getD i 0):=by
 refine c9 (x:=.lst (xs.map .int)) (y:=.int i) (b1:=false) (b2:=false) (by simp[h]) rfl ?_;have:=xD (xs:=xs) (i:=(i:Int)) (by omega) (by simpa using hi);simpa using this
def Uu {f:FE}{ρ:DL.Env}{a m:Int}(e:f ρ=sI a)(h:0<m)(h2:m<1073741824):f2 jq f (fI m) ρ=sI (a / m):=bR (.int a) (.int m) e rfl (Qc a h h2)
abbrev lE (ns:LI)(af:LD)(xs:LI)(ae:Int)(cs:LD)(O T U G M:OB):DL.Env:=[sL (ns.map .int),lT af,sT af,sL (xs.map .int),sI ae,lT ((cU af ae).map .int),sL cs,O,T,U,G,M]
section
variable {af:LD}(gr:GR af) (hr:af.length<=14) (ns xs:LI) (QO:xs.length=3) (ae:Int) (cs:LD)
include gr hr
theorem Qi {n m:Nat}{r:D}{a d:Int}{b:Str}(hn:(r,n)∈bV (au af ae))(er:r=row a ("copy" : Str) [.int d,.str b,.int m])(day:Int)(f T G:OB):∃i U c,Bl (lE ns af xs ae cs (sI n) (sI day) f T G)=some (.nx (lE ns af xs ae cs (sI n) (sI day) i U c)):=by
 have hh:=(ls hn).1;have M:=bc hh;have C:=mod_lt (x:=(n:Int)+day) (m:=3) (by decide);obtain⟨p,hp,j⟩:∃p,PN p/\bF (.lst [.non,.str "ann",.str "bob"]) (.int (((n:Int)+day) % 3))=some (p,false):=by
  have:((n:Int)+day) % 3=0\/((n:Int)+day) % 3=1\/((n:Int)+day) % 3=2:=by omega
  rcases this with h|h|h<;>rw[h]
  ·exact⟨.non,.inl rfl,rfl⟩
  ·exact⟨_,.inr ⟨_,rfl⟩,rfl⟩
  ·exact⟨_,.inr ⟨_,rfl⟩,rfl⟩
 have l:b8 p=true:=by rcases hp with rfl|⟨_,rfl⟩<;>rfl
 have g:=Ae gr.k gr.w (by omega) ae (gr.n ae) (xX hr ae) day n hp;have e2:=Nz gr.k gr.w (by omega) ae (gr.n ae) (xX hr ae) day hn er hp;have e:=EA gr.k gr.w (by omega) ae day hh er p;rw[<-e]at e2;obtain⟨v,hv⟩:∃v:Bool,(decide (n∈je af ae day) && B3 (ER af n) p)=v:=⟨_,rfl⟩;rw[hv]at g e2 e;let E:OB->DL.Env:=λG=>lE ns af xs ae cs (sI n) (sI day) (some (p,false)) (sO v) G;have o:f2 bF (fA cw (ag (fC .non) (ag (fS "ann") (ag (fS "bob") aj)))) (f2 bY (f2 eQ (am 7) (am 8)) (fI 3)) (lE ns af xs ae cs (sI n) (sI day) f T G)=some (p,false):=c9 (x:=.lst [.non,.str "ann",.str "bob"]) (y:=.int (((n:Int)+day) % 3)) (b1:=true) (b2:=false) (aL [.non,.str "ann",.str "bob"] rfl (fK _ (by simp))) (im (bR (.int n) (.int day) rfl rfl rfl) (by decide)) j;have s:aV (f2 tO (am 10) (fA qw (fV 2 (fV 4 (fV 8 (fV 7 (fV 9 (fV 5 aj)))))))) (E G)=some false:=dQ (bR (.bl v) (.bl v) rfl (aL [.tup af,.int ae,.int day,.int n,p,.lst ((cU af ae).map .int)] rfl e2) (Ab rfl));have t:f2 bF (f2 bF (f2 bF (am 2) (am 7)) (fI 1)) (fI 3) (E G)=sI (m:Int):=bR (.tup [.str "copy",.int d,.str b,.int (m:Int)]) (.int 3) (bR r (.int 1) (bR (.tup af) (.int n) rfl rfl (by simp[bG M])) rfl (by rw[er];simp[row,Bn])) rfl (by simp[Si]);have u:fN (aV (am 10)) (aV (f2 tO (fA jO (fV 2 (fV 4 (fV 7 aj)))) (fA jO (fV 2 (fV 4 (fV 11 aj)))))) (E (sI (m:Int)))=some false:=by
  cases v with
  |false=>exact fz (p:=false) (q:=false) (dQ rfl) λz=>by cases z
  |true=>
   have O:=(vC _ _ ▸ (vC _ _ ▸ e.symm).2).1;have A:m≠n:=λz=>by
    have O:eO af ae r n m=true:=O;unfold eO at O;rw[z,M]at O;have h:aS r<aS r\/(aS r=aS r/\(n:Int)<(n:Int)):=Qs (vC _ _ ▸ O).2;omega
   have hk:a<=ae:=by have h:=Qs (vN hh).2;rw[er]at h;exact h
   obtain⟨w,b1,b2,B,f1,f2⟩:=B8 gr.q gr.k ae (by omega) A (M.trans (by rw[er])) hk;exact fz (p:=true) (q:=false) (dQ rfl) λ_=>dQ (c9 (aL [.tup af,.int ae,.int n] rfl f1) (aL [.tup af,.int ae,.int (m:Int)] rfl f2) (Ab (iJ 20 40 _ (by decide) B)))
 exact⟨_,_,_,kO p o l (kO (.bl v) (aL [.tup af,.int ae,.int day,.int n,p] rfl g) rfl (ft (Bk s rfl) (kO (.int (m:Int)) t rfl (Bk u rfl))))⟩
include QO
theorem Qj {n m:Nat}{r:D}{a d:Int}{b:Str}(hn:(r,n)∈bV (au af ae))(er:r=row a ("copy" : Str) [.int d,.str b,.int m])(f j O T:OB):∃c U G M,Bm (lE ns af xs ae cs (sI n) f j O T)=some (.nx (lE ns af xs ae cs (sI n) c U G M)):=by
 obtain⟨ds,k⟩:∃ds:LI,ds=[xs.getD 2 0 % 5,5+xs.getD 2 0 / 5 % 5,10+xs.getD 1 0 % 9,9999]:=⟨_,rfl⟩;obtain⟨ρ',e,c,U,G,M,rfl⟩:=gI (tg:=dF 8) (g:=Bl) (λi ρ=>∃c U G M,ρ=lE ns af xs ae cs (sI n) c U G M) (ds.map .int) (lE ns af xs ae cs (sI n) f j O T) ⟨_,_,_,_,rfl⟩ (by
  rintro i dd ρ hd ⟨c,U,G,M,rfl⟩;rw[vA]at hd;obtain⟨day,_,rfl⟩:=oY hd;obtain⟨p,q,s,l⟩:=Qi gr hr ns xs ae cs hn er day U G M;exact⟨_,_,rfl,.inl l,_,_,_,_,rfl⟩)
 refine⟨_,_,_,_,(KA rfl).trans (hU (ds:=ds.map .int) ?_ e)⟩;have i2:∀ρ:DL.Env,ρ[3]? = some (sL (xs.map .int))->cx 3 2 ρ=sI (xs.getD 2 0):=λρ h=>Sw (b:=false) h 2 (by omega);have i1:∀ρ:DL.Env,ρ[3]? = some (sL (xs.map .int))->cx 3 1 ρ=sI (xs.getD 1 0):=λρ h=>Sw (b:=false) h 1 (by omega);have o:fA cw (ag (f2 bY (cx 3 2) (fI 5)) (ag (f2 eQ (fI 5) (f2 bY (f2 jq (cx 3 2) (fI 5)) (fI 5))) (ag (f2 eQ (fI 10) (f2 bY (cx 3 1) (fI 9))) (ag (fI 9999) aj)))) (gP (lE ns af xs ae cs (sI n) f j O T))=lT (ds.map .int):=by
  rw[k];exact aL [.int (xs.getD 2 0 % 5),.int (5+xs.getD 2 0 / 5 % 5),.int (10+xs.getD 1 0 % 9),.int 9999] (ce (im (i2 _ rfl) (by decide)) (ce (bR (.int 5) (.int (xs.getD 2 0 / 5 % 5)) rfl (im (Uu (i2 _ rfl) (by decide) (by decide)) (by decide)) rfl) (ce (bR (.int 10) (.int (xs.getD 1 0 % 9)) rfl (im (i1 _ rfl) (by decide)) rfl) rfl))) (fK _ (by simp))
 show bK (fA cw (ag (f2 bY (cx 3 2) (fI 5)) (ag (f2 eQ (fI 5) (f2 bY (f2 jq (cx 3 2) (fI 5)) (fI 5))) (ag (f2 eQ (fI 10) (f2 bY (cx 3 1) (fI 9))) (ag (fI 9999) aj))))) (gP (lE ns af xs ae cs (sI n) f j O T))=_;unfold bK;rw[o];rfl
end
section
variable {af:LD}(gr:GR af) (hr:af.length<=14) (ns xs:LI) (QO:xs.length=3) (ae:Int)
include gr hr QO
theorem Qk (u s o p q T U:OB):∃v w l f j G M,xH [sL (ns.map .int),lT af,sT af,sL (xs.map .int),sI ae,u,s,o,p,q,T,U]=some (.nx [sL (ns.map .int),lT af,sT af,sL (xs.map .int),sI ae,v,w,l,f,j,G,M]):=by
 have y:cR [.tup af,.int ae]=lT ((cU af ae).map .int):=by
  have:=lm (af:=af) ⟨by omega,λr h=>(gr.k r h).c⟩ ae;unfold cU;rw[uP];exact this
 obtain⟨C,t⟩:∃C:KL,C=(bV (au af ae)).filter λx=>decide (kindOf x.1 = "copy"):=⟨_,rfl⟩;have E:=xX hr ae;have z:bS (bK (am 5)) 1 [2] (dF 0) (aV (f2 dw (f2 bF (f2 bF (f2 bF (am 1) (am 0)) (fI 1)) (fI 0)) (fS "copy"))) (am 0) [sL (ns.map .int),lT af,sT af,sL (xs.map .int),sI ae,lT ((cU af ae).map .int),s,o,p,q,T,U]=lT (C.map λx=>.int x.2):=by
  rw[t];refine gf (fi:=bK (am 5)) (nT:=1) (cap:=[2]) (tg:=dF 0) (fe:=am 0) (bV (au af ae)) (λx=>.int x.2) (λx=>decide (kindOf x.1 = "copy")) (λx=>.int x.2) ?_ (by omega) λx hx=>?_
  ·show some ((cU af ae).map D.int)=_;unfold cU;rw[uP];rfl
  ·have O:=bc (ls hx).1;obtain⟨a,k,ax,e,_⟩:=gr.k x.1 (vL O);refine⟨[sI x.2,sT af],rfl,cE (a:=kindOf x.1) (bb:=false) ?_ rfl,λ_=>⟨false,rfl⟩⟩;rw[e]at O |-;exact bR (.tup (.str k::ax)) (.int 0) (bR (row a k ax) (.int 1) (bR (.tup af) (.int x.2) rfl rfl (by simp[bG O])) rfl (by simp[row,Bn])) rfl (by simp[GW];rfl)
 have A:bB (C.map λx=>D.int x.2)=true:=c7 λd hd=>by obtain⟨x,_,rfl⟩:=vO hd;rfl
 obtain⟨ρ',e,l,f,j,G,M,rfl⟩:=gI (tg:=dF 7) (g:=Bm) (λi ρ=>∃l f j G M,ρ=lE ns af xs ae (C.map λx=>.int x.2) l f j G M) (C.map λx=>.int x.2) (lE ns af xs ae (C.map λx=>.int x.2) o p q T U) ⟨_,_,_,_,_,rfl⟩ (by
  rintro i dd ρ hd ⟨l,f,j,G,M,rfl⟩;rw[vA]at hd;obtain⟨x,hx,rfl⟩:=oY hd;have hx:=vL hx;rw[t]at hx;obtain⟨h1,h2⟩:=vN hx;obtain⟨r,n⟩:=x;obtain⟨a,d,b,m,er⟩:=mC (gr.k r (vL (bc (ls h1).1))) (Qs h2);obtain⟨F,H,I,J,B⟩:=Qj gr hr ns xs QO ae (C.map λx=>.int x.2) h1 er f j G M;exact⟨_,_,rfl,.inl B,_,_,_,_,_,rfl⟩)
 refine⟨lT ((cU af ae).map .int),sL (C.map λx=>.int x.2),l,f,j,G,M,dq (ds:=(cU af ae).map .int) (aL [.tup af,.int ae] rfl y) (gJ _) ?_⟩;exact dq (ds:=C.map λ(x:D×Nat)=>.int (x.2:Int)) z A (hU (ds:=C.map λ(x:D×Nat)=>.int (x.2:Int)) rfl e)
end
def law_true (ns:LI)(q:ns.length<=63):∃b,F_law [.lst (ns.map .int)]=some (.bl true,b):=by
 obtain⟨af,er,G,d⟩:=K9 ns;obtain⟨a,f⟩:=oS ns 1;obtain⟨xs,ex,O,hx⟩:=oV a 60 3 (by decide) (by decide);have M:=Ao (af:=af) ⟨by omega,λj r h=>(G.at_ j r h).1⟩ G.flat (.lst af) (.inl rfl);have s:=mod_lt (x:=xs.getD 0 0 / 12) (m:=2) (by decide);obtain⟨ae,ek⟩:∃ae:Int,bF (.lst [.int 9999,.int (xs.getD 0 0 % 12)]) (.int (xs.getD 0 0 / 12 % 2))=sI ae:=by
  have:xs.getD 0 0 / 12 % 2=0\/xs.getD 0 0 / 12 % 2=1:=by omega
  rcases this with h|h<;>rw[h]
  ·exact⟨_,rfl⟩
  ·exact⟨_,rfl⟩
 let E:DL.Env:=[sL (ns.map .int),lT af,sT af,sL (xs.map .int),none,none,none,none,none,none,none,none];obtain⟨g,i,k,l,n,T,U,o⟩:=Qk G d ns xs O ae none none none none none none none;have e:gg (dF 4) xH [.int ae] E=some (.nx [sL (ns.map .int),lT af,sT af,sL (xs.map .int),sI ae,g,i,k,l,n,T,U]):=by
  rw[ie];show(match xH [sL (ns.map .int),lT af,sT af,sL (xs.map .int),sI ae,none,none,none,none,none,none,none] with|some (.nx ρ')=>_|some (.ct ρ')=>_|some (.bk ρ')=>_|r=>r)=_;rw[o];exact kq ..
 have c:cx 3 0 (gP E)=sI (xs.getD 0 0):=Sw (b:=false) rfl 0 (by omega);have p:fA cw (ag (f2 bF (fA cw (ag (fI 9999) (ag (f2 bY (cx 3 0) (fI 12)) aj))) (f2 bY (f2 jq (cx 3 0) (fI 12)) (fI 2))) aj) (gP E)=lT [.int ae]:=aL [.int ae] (ce (c9 (x:=.lst [.int 9999,.int (xs.getD 0 0 % 12)]) (y:=.int (xs.getD 0 0 / 12 % 2)) (b1:=true) (b2:=false) (aL [.int 9999,.int (xs.getD 0 0 % 12)] (ce rfl (ce (im c (by decide)) rfl)) (fK _ (by simp))) (im (Uu c (by decide) (by decide)) (by decide)) ek) rfl) (fK _ (by simp));refine⟨false,aw rfl (dq (ds:=af) (aL [.lst (ns.map .int)] rfl er) G.flat (kO (.tup af) (aL [.lst af] rfl M) (by simp[G.flat]) (dq (ds:=xs.map .int) (aL [.int a,.int ((60:Nat):Int),.int ((3:Nat):Int)] (ce (aL [.lst (ns.map .int),.int 1] rfl f) rfl) ex) (gJ _) (ft (hU (ds:=[.int ae]) ?_ e) (ay rfl)))))⟩;show bK (fA cw (ag (f2 bF (fA cw (ag (fI 9999) (ag (f2 bY (cx 3 0) (fI 12)) aj))) (f2 bY (f2 jq (cx 3 0) (fI 12)) (fI 2))) aj)) (gP E)=_;unfold bK;rw[p];rfl
end Lw
namespace Lw
open PySem PySem.Spec PyProof.Rows L2 DL
def HU {a b:Expr}{G:Pos}:mI (.Subscript a b G):=by intro _ _;rfl
noncomputable def dj (i:Nat):Stmt:=PySem.Challenge.pw_sealchain_k43_whole_copies_hold_as_paper.main.body.getD i (.Pass ⟨0,0,0,0⟩)
section
variable {X:Cx}{es SU:QD}{f:FE}{g:FA}{pos:Pos}{k:Nat}
def EG {c:Const}(h:JE X (.Constant c k pos) f)(G:JA X es g):JA X (.Constant c k pos::es) (ag f g):=ai h G
def KE (h:JE X (.Tuple SU k pos) f)(G:JA X es g):JA X (.Tuple SU k pos::es) (ag f g):=ai h G
end
structure Tx (w:World)(K:Frag)(mg:Str->Option Value):Prop where
 hX:∃h,K.In h/\h.Ns mainGlobals mg
 d0:cJ K "is_whole" (dj 6)
 d1:cJ K "is_day" (dj 7)
 d2:cJ K "is_stretch" (dj 8)
 d3:cJ K "is_matters" (dj 12)
 d4:cJ K "is_name" (dj 22)
 d5:cJ K "is_rule" (dj 24)
 d6:cJ K "is_piece" (dj 23)
 d7:cJ K "is_pieces" (dj 25)
 d8:cJ K "is_change" (dj 26)
 d9:cJ K "is_changes" (dj 27)
 d10:cJ K "is_part" (dj 28)
 d11:cJ K "is_deed" (dj 29)
 d12:cJ K "word_of" (dj 32)
 d13:cJ K "part_of" (dj 33)
 d14:cJ K "day_of" (dj 34)
 d15:cJ K "is_timely" (dj 30)
 d16:cJ K "is_row" (dj 31)
 d17:cJ K "root_offices" (dj 39)
 d18:cJ K "is_second_root" (dj 40)
 d19:cJ K "parts_in" (dj 35)
 d20:cJ K "people_in" (dj 36)
 d21:cJ K "count_people" (dj 41)
 d22:cJ K "is_refused" (dj 42)
 d23:cJ K "register_of" (dj 43)
 d24:cJ K "heard" (dj 44)
 d25:cJ K "rank" (dj 46)
 d26:cJ K "in_order" (dj 48)
 d27:cJ K "is_known" (dj 45)
 d28:cJ K "is_paper" (dj 74)
 d29:cJ K "changed" (dj 95)
 d30:cJ K "put_together" (dj 96)
 d31:cJ K "words" (dj 97)
 d32:cJ K "lies_in" (dj 9)
 d33:cJ K "by_office" (dj 60)
 d34:cJ K "roots" (dj 49)
 d35:cJ K "tells" (dj 52)
 d36:cJ K "told_of" (dj 53)
 d37:cJ K "lives" (dj 54)
 d38:cJ K "has_seal" (dj 55)
 d39:cJ K "is_sound" (dj 56)
 d40:cJ K "is_alive" (dj 58)
 d41:cJ K "by_since" (dj 59)
 d42:cJ K "chief_of" (dj 61)
 d43:cJ K "holder_by" (dj 62)
 d44:cJ K "is_held_by" (dj 63)
 d45:cJ K "counts" (dj 65)
 d46:cJ K "new_claim" (dj 66)
 d47:cJ K "claims" (dj 71)
 d48:cJ K "is_leave" (dj 75)
 d49:cJ K "is_borne" (dj 76)
 d50:cJ K "covers" (dj 13)
 d51:cJ K "reach_bar" (dj 81)
 d52:cJ K "office_bar" (dj 82)
 d53:cJ K "office_bases" (dj 85)
 d54:cJ K "ends_within" (dj 11)
 d55:cJ K "is_within" (dj 10)
 d56:cJ K "is_ahead" (dj 47)
 d57:cJ K "leave_bar" (dj 83)
 d58:cJ K "leaves_to" (dj 84)
 d59:cJ K "leave_bases" (dj 86)
 d60:cJ K "copy_bases" (dj 87)
 d61:cJ K "bases_by" (dj 88)
 d62:cJ K "may_call" (dj 77)
 d63:cJ K "calls_in" (dj 78)
 d64:cJ K "calls_by" (dj 79)
 d65:cJ K "is_fit" (dj 89)
 d66:cJ K "links" (dj 90)
 d67:cJ K "bears" (dj 91)
 d68:cJ K "stood" (dj 92)
 d69:cJ K "standing" (dj 93)
 d70:cJ K "paper_behind" (dj 98)
 d71:cJ K "holding" (dj 99)
 d72:cJ K "whom_of" (dj 100)
 d73:JL K "holds" (dj 101)
 d74:cJ K "_law_cell_at" (dj 103)
 d75:cJ K "_law_stream" (dj 104)
 d76:cJ K "_law_deed" (dj 105)
 d77:cJ K "_law_rows" (dj 106)
 d78:cJ K "calls" (dj 80)
 d79:cJ K "_law_due" (dj 107)
 d80:cJ K "law" (dj 108)
 n0:mg "all" = none
 n1:mg "any" = none
 n2:mg "bool" = none
 n3:mg "dict" = none
 n4:mg "enumerate" = none
 n5:mg "int" = none
 n6:mg "isinstance" = none
 n7:mg "len" = none
 n8:mg "list" = none
 n9:mg "max" = none
 n10:mg "min" = none
 n11:mg "range" = none
 n12:mg "reversed" = none
 n13:mg "set" = none
 n14:mg "sorted" = none
 n15:mg "str" = none
 n16:mg "tuple" = none
 n17:mg "zip" = none
 k0:KC K mg "ALL_MATTERS" lU
 k1:KC K mg "LAST_DAY" rM
 k2:KC K mg "MOST_FURTHER" kP
 k3:KC K mg "MOST_LETTERS" kQ
 k4:KC K mg "MOST_PEOPLE" lV
 k5:KC K mg "MOST_PIECES" jk
 k6:KC K mg "MOST_ROWS" iW
 k7:KC K mg "PAPERS" zt
 k8:KD w K mg "PARTS" bL
 k9:KC K mg "PERSON_PARTS" eB
 k10:KC K mg "RULES" CF
 k11:KC K mg "SEALINGS" iB
 l26:Ec K "in_order"
 l38:Ec K "has_seal"
 l61:Ec K "bases_by"
section
variable {P:Program}{w:World}{K:Frag}{mg:SV}{base:Heap}(T:Tx w K mg)
include T
theorem f0:Fn P w K mg base 1 "is_whole" gp:=T.d0.fq T.hX rN ["thing","least","most"] 3 λnd G hu=>
  (aO (du (aI ca T.n6 bJ (aM 0 (ai (jr T.n5 Lj) ao))) (du (M9 (aI ca T.n6 bJ (aM 0 (ai (jr T.n2 ME) ao)))) (cC (qH gY gY (ak 1) (ak 0) (ak 2))))))
theorem f1:Fn P w K mg base 2 "is_day" iC:=T.d1.fq T.hX zu ["thing"] 1 λnd G hu=>
  (aO (aY (f0 T) G (aM 0 (fF (ai (cZ T.k1) ao)))))
theorem f2:Fn P w K mg base 3 "is_stretch" ny:=T.d2.fq T.hX nw ["thing"] 1 λnd G hu=>
  (aq (bp (gQ (eY (cu (b9 (aI ca T.n6 bJ (aM 0 (ai (jr T.n16 iV) ao))))) (eY (aC (wU hu) (aI fg T.n7 eM (aM 0 ao)) a8) (dY (cu (b9 (aY (f1 T) G (ai (be 0) ao)))))))) cI)
   (aO (qI (bO wW (be 0) cQ) (cC (du (aY (f1 T) G (ai (be 0) ao)) (cC (bO pi (be 0) (be 0))))))))
theorem f3:Fn P w K mg base 2 "is_matters" nB:=T.d3.fq T.hX nA ["thing"] 1 λnd G hu=>
  (aO (aY (f0 T) G (aM 0 (fF (ai (cZ T.k0) ao)))))
theorem f4:Fn P w K mg base 1 "is_name" lC:=T.d4.fq T.hX vn ["thing"] 1 λnd G hu=>
  (aq (bp (gQ (eY (cu (b9 (aI ca T.n6 bJ (aM 0 (ai (jr T.n15 FC) ao))))) (dY (cu (yu gY gY a8 (aI fg T.n7 eM (aM 0 ao)) (cZ T.k3)))))) cI)
   (aO (aI yC T.n0 y9 (ai (ge ["sign"] (bP (ak 0)) ir (qH gY gY a7 (ak 0) a7)) ao))))
theorem f5:Fn P w K mg base 1 "is_rule" vq:=T.d5.fq T.hX vp ["thing"] 1 λnd G hu=>
  (aO (du (aI ca T.n6 bJ (aM 0 (ai (jr T.n15 FC) ao))) (cC (bO ur (ak 0) (cZ T.k10)))))
theorem f6:Fn P w K mg base 2 "is_piece" ms:=T.d6.fq T.hX rO ["thing"] 1 λnd G hu=>
  (aO (a0 (f4 T) G))
theorem f7:Fn P w K mg base 3 "is_pieces" p4:=T.d7.fq T.hX p0 ["thing"] 1 λnd G hu=>
  (aq (bp (gQ (eY (cu (b9 (aI ca T.n6 bJ (aM 0 (ai (jr T.n16 iV) ao))))) (dY (cu (yu gY gY a8 (aI fg T.n7 eM (aM 0 ao)) (cZ T.k5)))))) cI)
   (aO (aI yC T.n0 y9 (ai (ge ["piece"] (bP (ak 0)) ir (a0 (f6 T) G)) ao))))
theorem f8:Fn P w K mg base 3 "is_change" p6:=T.d8.fq T.hX p5 ["thing"] 1 λnd G hu=>
  (aq (bp (gQ (eY (cu (b9 (aI ca T.n6 bJ (aM 0 (ai (jr T.n16 iV) ao))))) (dY (aC (wU hu) (aI fg T.n7 eM (aM 0 ao)) a8)))) cI)
   (aO (du (aY (f0 T) G (ai (be 0) (fF (ai (aW yv (cZ T.k5) a8) ao)))) (cC (aY (f6 T) G (ai (be 0) ao))))))
theorem f9:Fn P w K mg base 4 "is_changes" nE:=T.d9.fq T.hX nD ["thing","places"] 1 λnd G hu=>
  (aq (bp (gQ (eY (cu (b9 (aI ca T.n6 bJ (aM 0 (ai (jr T.n16 iV) ao))))) (dY (cu (b9 (aI yC T.n0 y9 (ai (ge ["change"] (bP (ak 0)) ir (a0 (f8 T) G)) ao))))))) cI)
   (aq (lQ ["change"] nd (bP (ak 0)) ir (be 0))
   (aO (aI yC T.n0 y9 (ai (ge ["place","later"] (FW T.n17 (ak 1) (fj (ak 1) (fP a8) hJ)) ir (bO pi (ak 0) (ak 1))) ao)))))
theorem f10:Fn P w K mg base 5 "is_part" ii:=T.d10.fq T.hX vt ["part","thing"] 2 λnd G hu=>
  (aq (bp (gQ (eY (aC (cz hu) (ak 0) a7) (dY (aC (cz hu) (ak 0) a7)))) (a0 (f1 T) G))
   (aq (bp (gQ (eY (aC (cz hu) (ak 0) a7) (eY (aC (cz hu) (ak 0) a7) (dY (aC (cz hu) (ak 0) a7))))) (a0 (f4 T) G))
   (aq (bp (aC (cz hu) (ak 0) a7) (qI (bO wW (ak 1) cQ) (cC (a0 (f4 T) G))))
   (aq (bp (aC (cz hu) (ak 0) a7) (a0 (f3 T) G))
   (aq (bp (aC (cz hu) (ak 0) a7) (a0 (f2 T) G))
   (aq (bp (aC (cz hu) (ak 0) a7) (aY (f0 T) G (aM 1 (fF (ai (cZ T.k2) ao)))))
   (aq (bp (aC (cz hu) (ak 0) a7) (a0 (f5 T) G))
   (aq (bp (aC (cz hu) (ak 0) a7) (aY (f0 T) G (aM 1 (fF (ai (aW yv (cZ T.k6) a8) ao)))))
   (aq (bp (aC (cz hu) (ak 0) a7) (a0 (f7 T) G))
   (aO (a0 (f9 T) G)))))))))))
theorem f11:Fn P w K mg base 6 "is_deed" oD:=T.d11.fq T.hX vv ["thing"] 1 λnd G hu=>
  (aq (bp (gQ (eY (cu (b9 (aI ca T.n6 bJ (aM 0 (ai (jr T.n16 iV) ao))))) (eY (aC (cz hu) (aI fg T.n7 eM (aM 0 ao)) a8) (dY (cu (b9 (aI ca T.n6 bJ (ai (be 0) (ai (jr T.n15 FC) ao))))))))) cI)
   (aq (bp (gQ (eY (Eb T.k8 (be 0)) (dY (aC (wU hu) (aI fg T.n7 eM (aM 0 ao)) (aW dz a8 (aI fg T.n7 eM (ai (xg T.k8 (be 0)) ao))))))) cI)
   (aO (aI yC T.n0 y9 (ai (ge ["part","value"] (FW T.n17 (xg T.k8 (be 0)) (fj (ak 0) (fP a8) hJ)) ir (a0 (f10 T) G)) ao)))))
theorem qc:Fn P w K mg base 1 "word_of" a9:=T.d12.fq T.hX vw ["row"] 1 λnd G hu=>
  (aO (bd (be 0) a8))
theorem jV:Fn P w K mg base 2 "part_of" av:=T.d13.fq T.hX vx ["row","part"] 2 λnd G hu=>
  (aO (bd (be 0) (aW dz a8 (Jt T.k8 (a0 (qc T) G) (ak 1)))))
theorem EH:Fn P w K mg base 3 "day_of" bi:=T.d14.fq T.hX zv ["row"] 1 λnd G hu=>
  (aq (bp (aC (cz hu) (a0 (qc T) G) a7) cQ)
   (aO (a0 (jV T) G)))
theorem VP:Fn P w K mg base 4 "is_timely" kR:=T.d15.fq T.hX p7 ["row","day"] 1 λnd G hu=>
  (aq (aP nd (a0 (EH T) G))
   (aq (bp (aC wW (ak 1) cQ) cI)
   (aq (bp (gQ (kx (aC (cz hu) (a0 (qc T) G) a7) (iU (aC pi (a0 (jV T) G) (ak 1))))) cI)
   (aO (bO gY (ak 1) (be 0))))))
theorem VQ:Fn P w K mg base 7 "is_row" rP:=T.d16.fq T.hX zw ["thing"] 1 λnd G hu=>
  (aq (bp (gQ (eY (cu (b9 (aI ca T.n6 bJ (aM 0 (ai (jr T.n16 iV) ao))))) (dY (aC (wU hu) (aI fg T.n7 eM (aM 0 ao)) a8)))) cI)
   (aO (du (aY (f1 T) G (ai (be 0) ao)) (du (aY (f11 T) G (ai (be 0) ao)) (cC (a0 (VP T) G))))))
theorem VR:Fn P w K mg base 3 "root_offices" iD:=T.d17.fq T.hX kT ["rows"] 1 λnd G hu=>
  (aO (ge ["row"] (bP (ak 0)) (dX (aC (cz hu) (a0 (qc T) G) a7)) (a0 (jV T) G)))
theorem VS:Fn P w K mg base 4 "is_second_root" gs:=T.d18.fq T.hX j7 ["ahead","row"] 2 λnd G hu=>
  (aO (du (bO (cz hu) (a0 (qc T) G) a7) (cC (bO ur (a0 (jV T) G) (a0 (VR T) G)))))
theorem VT:Fn P w K mg base 2 "parts_in" gt:=T.d19.fq T.hX rQ ["row"] 1 λnd G hu=>
  (aO (Bf rfl T.n8 T.n17 (xg T.k8 (a0 (qc T) G)) (fj (be 0) (fP a8) hJ)))
theorem VU:Fn P w K mg base 3 "people_in" gK:=T.d20.fq T.hX p8 ["row","names"] 1 λnd G hu=>
  (aq (lQ ["part","value"] nd (bP (a0 (VT T) G)) (dX (gQ (kx (aC ur (ak 0) (cZ T.k9)) (iU (aC wZ (ak 1) cQ))))) (ak 1))
   (aO (qZ rfl T.n14 T.n13 (ak 1))))
theorem VV:Fn P w K mg base 4 "count_people" iE:=T.d21.fq T.hX kU ["rows","names","row"] 1 λnd G hu=>
  (aq (aP nd (dv ao))
   (aq (lR (bP (ak 0)) (C9 2 nd) eX (bD (MO (i:=1) (a0 (VU T) G))))
   (aO (DZ rfl T.n7 T.n13 (ak 1)))))
theorem VW:Fn P w K mg base 8 "is_refused" jN:=T.d22.fq T.hX nF ["book","place"] 2 λnd G hu=>
  (aq (bp (gQ (eY (aC MB (ak 1) (cZ T.k6)) (dY (cu (b9 (aY (VQ T) G (ai (bd (ak 0) (ak 1)) ao))))))) cI)
   (aO (qI (aY (VS T) G (ai (fj (ak 0) hJ (fP (ak 1))) (ai (bd (ak 0) (ak 1)) ao))) (cC (bO AD (aY (VV T) G (ai (fj (ak 0) hJ (fP (aW dz (ak 1) a8))) ao)) (cZ T.k4))))))
theorem VX:Fn P w K mg base 9 "register_of" jl:=T.d23.fq T.hX lW ["rows","book","place"] 1 λnd G hu=>
  (aq (jY (cu (b9 (aI Ee T.n6 bJ (aM 0 (ai (bv (ai (jr T.n8 FD) (ai (jr T.n16 iV) ao))) ao))))) (bD yJ) jF)
   (aq (aP nd (om Jm T.n16 iV (aM 0 ao)))
   (aq (Ls (yA T.n11 (aI fg T.n7 eM (aM 1 ao))) (C9 2 nd) eX (bD (jY (b9 (a0 (VW T) G)) (bD yJ) jF)))
   (bD (lx 1)))))
theorem Ql:Fn P w K mg base 1 "heard" cH:=T.d24.fq T.hX CG ["book","known"] 2 λnd G hu=>
  (aO (ge ["number","row","known"] (Jo T.n4 (ak 0)) (dX (aC gY (be 1) (ak 2))) (ak 0)))
theorem Rf:Fn P w K mg base 4 "rank" gS:=T.d25.fq T.hX GV ["book","number"] 2 λnd G hu=>
  (aO (bv (ai (aY (EH T) G (ai (bd (ak 0) (ak 1)) ao)) (aM 1 ao))))
theorem Sx:Fn P w K mg base 8 "in_order" cR:=T.d26.fqL T.hX rR ["book","known","dated"] 2 λnd G hu M=>
  (aq (lQ ["number","book"] nd (bP (a0 (Ql T) G)) (dX (aC wZ (aY (EH T) G (ai (bd (ak 1) (ak 0)) ao)) cQ)) (ak 0))
   (aO (Gs Gq T.n14 (ak 2) (AZ (cap:=[0]) (N':=["number","book"]) (by decide +kernel) T.l26 M rfl rfl (Gp (by decide +kernel) rfl rfl rfl rfl rfl) rfl (.cons rfl rfl (Or.inl rfl) rfl (wN (by decide +kernel) rfl) (.nil rfl)) rfl G.in1.in1 (λ_ _ _ _=>rfl) λ_ _ _ _ G=>have hu:=DJ G;(a0 (Rf T) G)))))
theorem Sy:Fn P w K mg base 1 "is_known" cD:=T.d27.fq T.hX rS ["book","known","number"] 3 λnd G hu=>
  (aO (du (qH gY pi a8 (ak 2) (aI fg T.n7 eM (aM 0 ao))) (cC (bO gY (bd (bd (ak 0) (ak 2)) a8) (ak 1)))))
theorem Rg:Fn P w K mg base 2 "is_paper" cj:=T.d28.fq T.hX rT ["book","known","number"] 3 λnd G hu=>
  (aO (du (a0 (Sy T) G) (cC (bO ur (aY (qc T) G (ai (bd (ak 0) (ak 2)) ao)) (cZ T.k7)))))
theorem VY:Fn P w K mg base 1 "changed" oE:=T.d29.fq T.hX vy ["pieces","place","piece"] 3 λnd G hu=>
  (aO (aW Gz (aW Gz (fj (ak 0) hJ (fP (ak 1))) (bv (aM 2 ao))) (fj (ak 0) (fP (aW dz (ak 1) a8)) hJ)))
theorem VZ:Fn P w K mg base 3 "put_together" de:=T.d30.fq T.hX kX ["book","path","pieces","number","place","piece"] 2 λnd G hu=>
  (aq (aP nd (aY (jV T) G (ai (bd (hs:=HU) (ak 0) (bd (ak 1) (Lf Li a8))) (ai a7 ao))))
   (aq (lR (Nf T.n12 (ak 1)) (C9 3 nd) eX (aq (jY (aC (wU hu) (aY (qc T) G (ai (bd (ak 0) (ak 3)) ao)) a7) (bD Cj) jF)
   (bD (yH [3] (lR (bP (aY (jV T) G (ai (bd (ak 0) (ak 3)) (ai a7 ao)))) (w6 rfl (gE (C9 4 nd) (gE (C9 5 nd) qe))) Lm (aq (bp (aC AD (ak 4) (aI fg T.n7 eM (aM 2 ao))) (bv (ai a7 (aM 3 ao))))
   (bD (aP nd (a0 (VY T) G)))))))))
   (aO (bv (ai a7 (aM 2 ao))))))
theorem Uv:Fn P w K mg base 4 "words" jO:=T.d31.fq T.hX CH ["book","known","number","path","at"] 3 λnd G hu=>
  (aq (aP nd (dv ao))
   (aq (aP nd (ak 2))
   (aq (yw 1000 PassesOwn.never (aC js (ak 4) (ak 3)) (aq (bp (cu (b9 (a0 (Rg T) G))) (bv (ai a7 (aM 4 ao))))
   (aq (wR (i:=3) (ak 4))
   (aq (bp (aC (cz hu) (aY (qc T) G (ai (bd (ak 0) (ak 4)) ao)) a7) (a0 (VZ T) G))
   (bD (aP nd (aY (jV T) G (ai (bd (ak 0) (ak 4)) (ai a7 ao)))))))))
   (aO (JH a7 (aI Gj T.n14 qY (ai (fj (ak 3) (fP (rF (ak 3) (ak 4))) hJ) ao)))))))
theorem Sz:Fn P w K mg base 1 "lies_in" gu:=T.d32.fq T.hX vz ["day","stretch"] 2 λnd G hu=>
  (aO (du (bO gY (be 1) (ak 0)) (cC (qI (bO wW (be 1) cQ) (cC (bO pi (ak 0) (be 1)))))))
theorem Wa:Fn P w K mg base 1 "by_office" gL:=T.d33.fq T.hX p9 ["claim"] 1 λnd G hu=>
  (aO (bv (ai (be 0) (ai (be 0) (ai (be 0) ao)))))
theorem S1:Fn P w K mg base 3 "roots" gD:=T.d34.fq T.hX CJ ["book","known","known_rows"] 2 λnd G hu=>
  (aq (lQ ["number","book"] nd (bP (a0 (Ql T) G)) ir (bd (ak 1) (ak 0)))
   (aO (om (MY rfl) T.n3 MX (ai (ge ["row"] (bP (ak 2)) (dX (aC (cz hu) (a0 (qc T) G) a7)) (bv (ai (a0 (jV T) G) (aM 0 ao)))) ao))))
theorem Wb:Fn P w K mg base 4 "tells" qq:=T.d35.fq T.hX CK ["row","words","person","day"] 4 λnd G hu=>
  (aO (du (bO ur (a0 (qc T) G) (ak 1)) (du (bO (cz hu) (a0 (jV T) G) (ak 2)) (cC (bO gY (a0 (EH T) G) (ak 3))))))
theorem Uw:Fn P w K mg base 5 "told_of" j8:=T.d36.fq T.hX v0 ["book","known","words","person","day"] 5 λnd G hu=>
  (aO (ge ["number","words","person","day","book"] (bP (a0 (Ql T) G)) (dX (b9 (aY (Wb T) G (ai (bd (ak 4) (ak 0)) (aM 1 (aM 2 (aM 3 ao))))))) (ak 0)))
theorem Wc:Fn P w K mg base 6 "lives" xE:=T.d37.fq T.hX CL ["book","known","person","day"] 4 λnd G hu=>
  (aO (bO (cz hu) (aI fg T.n7 eM (ai (aY (Uw T) G (aM 0 (aM 1 (ai (bv (ai a7 ao)) (aM 2 (aM 3 ao)))))) ao)) a8))
theorem Wd:Fn P w K mg base 8 "has_seal" mu:=T.d38.fqL T.hX rV ["book","known","person","day","told"] 4 λnd G hu M=>
  (aq (aP nd (aY (Uw T) G (aM 0 (aM 1 (ai (bv (ai a7 (ai a7 ao))) (aM 2 (aM 3 ao)))))))
   (aq (bp (aC (cz hu) (aI fg T.n7 eM (aM 4 ao)) a8) cI)
   (aO (bO (cz hu) (aY (qc T) G (ai (bd (ak 0) (Cz Uh T.n9 (ak 4) (AZ (cap:=[0]) (N':=["number","book"]) (by decide +kernel) T.l38 M rfl rfl (Gp (by decide +kernel) rfl rfl rfl rfl rfl) rfl (.cons rfl rfl (Or.inl rfl) rfl (wN (by decide +kernel) rfl) (.nil rfl)) rfl G.in1 (λ_ _ _ _=>rfl) λ_ _ _ _ G=>have hu:=DJ G;(a0 (Rf T) G)) G)) ao)) a7))))
theorem Rh:Fn P w K mg base 9 "is_sound" eC:=T.d39.fq T.hX rW ["book","known","number","sealer","day"] 3 λnd G hu=>
  (aq (bp (gQ (eY (cu (b9 (a0 (Sy T) G))) (dY (aC js (aY (qc T) G (ai (bd (ak 0) (ak 2)) ao)) (cZ T.k11))))) cI)
   (aq (aP nd (aY (jV T) G (ai (bd (ak 0) (ak 2)) (ai a7 ao))))
   (aq (aP nd (aY (EH T) G (ai (bd (ak 0) (ak 2)) ao)))
   (aO (du (a0 (Wc T) G) (cC (a0 (Wd T) G)))))))
theorem We:Fn P w K mg base 2 "is_alive" iF:=T.d40.fq T.hX rX ["claim","day"] 2 λnd G hu=>
  (aO (aY (Sz T) G (aM 1 (ai (bv (ai (be 0) (ai (be 0) ao))) ao))))
theorem S2:Fn P w K mg base 1 "by_since" dC:=T.d41.fq T.hX rY ["claim"] 1 λnd G hu=>
  (aO (bv (ai (be 0) (ai (be 0) ao))))
theorem Wf:Fn P w K mg base 5 "chief_of" mv:=T.d42.fq T.hX rZ ["alive","rule"] 2 λnd G hu=>
  (aq (bp (aC (cz hu) (ak 1) a7) (bd (Cz Uh T.n9 (ak 0) (Cw (S2 T) (G.in1.mono (by decide)) rfl) G) a8))
   (aO (bd (Cz Ui T.n10 (ak 0) (Cw (S2 T) (G.in1.mono (by decide)) rfl) G) a8)))
theorem Ux:Fn P w K mg base 6 "holder_by" eE:=T.d43.fq T.hX pA ["claimed","root","day","alive","people","person","oldest"] 3 λnd G hu=>
  (aq (lQ ["claim","day","root"] nd (bP (ak 0)) (dX (gQ (kx (aC (cz hu) (be 0) (a0 (jV T) G)) (iU (b9 (a0 (We T) G)))))) (ak 0))
   (aq (aP nd (qZ rfl T.n14 T.n13 (ge ["claim"] (bP (ak 3)) ir (be 0))))
   (aq (bp (aC (cz hu) (aI fg T.n7 eM (aM 4 ao)) a8) (bv (ai a7 ao)))
   (aq (bp (gQ (kx (aC AD (aI fg T.n7 eM (aM 4 ao)) a8) (iU (aC (cz hu) (a0 (jV T) G) a7)))) (bv (ai a7 (aM 4 ao))))
   (aq (aP nd (aY (Wf T) G (aM 3 (ai (a0 (jV T) G) ao))))
   (aq (aP nd (Cz Ui T.n10 (ge ["claim","person"] (bP (ak 3)) (dX (aC (cz hu) (be 0) (ak 1))) (ak 0)) (Cw (S2 T) (G.in1.mono (by decide)) rfl) G))
   (aO (bv (ai a7 (aM 5 (ai (be 6) ao)))))))))))
theorem S3:Fn P w K mg base 7 "is_held_by" dD:=T.d44.fq T.hX nG ["claimed","root","person","day"] 4 λnd G hu=>
  (aO (bO (cz hu) (fj (a0 (Ux T) G) hJ (fP a8)) (bv (ai a7 (aM 2 ao)))))
theorem Wg:Fn P w K mg base 10 "counts" nH:=T.d45.fq T.hX zx ["book","known","so_far","number","row","root"] 4 λnd G hu=>
  (aq (aP nd (bd (ak 0) (ak 3)))
   (aq (bp (aC (cz hu) (a0 (qc T) G) a7) xz)
   (aq (bp (aC js (a0 (qc T) G) (bv (ai a7 (ai a7 (ai a7 ao))))) cI)
   (aq (aP nd (G2 (P4 hu) (a0 (S1 T) G) (a0 (jV T) G) ⟨rfl,rfl,rfl,rfl⟩))
   (aq (bp (aC wW (ak 5) cQ) cI)
   (aq (bp (aC (cz hu) (a0 (qc T) G) a7) cI)
   (aO (du (a0 (Rh T) G) (cC (aY (S3 T) G (aM 2 (aM 5 (ai (a0 (jV T) G) (ai (a0 (EH T) G) ao))))))))))))))
theorem Wh:Fn P w K mg base 3 "new_claim" iX:=T.d46.fq T.hX pB ["row","since","number"] 3 λnd G hu=>
  (aO (bv (ai (a0 (jV T) G) (ai (a0 (jV T) G) (aM 1 (ai cQ (aM 2 ao)))))))
theorem Uy:Fn P w K mg base 11 "claims" nI:=T.d47.fq T.hX zy ["book","known","so_far","heirs","number","row"] 2 λnd G hu=>
  (aq (aP nd (dv ao))
   (aq (J6 (i:=3) nd)
   (aq (lR (bP (a0 (Sx T) G)) (C9 4 nd) eX (aq (aP nd (bd (ak 0) (ak 4)))
   (aq (jY (cu (b9 (a0 (Wg T) G))) (bD Cj) jF)
   (bD (jY (aC (cz hu) (a0 (qc T) G) a7) (bD (aP nd (aW dz (ak 2) (dv (ai (aY (Wh T) G (aM 5 (ai (a0 (EH T) G) (aM 4 ao)))) ao))))) (bD (jY (aC (cz hu) (a0 (qc T) G) a7) (bD (aP nd xz)) (bD (jY (aC (cz hu) (a0 (qc T) G) a7) (bD (J8 (i:=3) (P4 hu) (a0 (jV T) G) (ai (a0 (jV T) G) (ai (a0 (jV T) G) ao)))) (bD (aP nd xz)))))))))))
   (aO (Gs Gq T.n14 (ak 2) (Cw (Wa T) (G.in1.in1.mono (by decide)) rfl))))))
theorem Uz:Fn P w K mg base 2 "is_leave" gy:=T.d48.fq T.hX sd ["book","known","number"] 3 λnd G hu=>
  (aO (du (a0 (Sy T) G) (cC (bO (cz hu) (aY (qc T) G (ai (bd (ak 0) (ak 2)) ao)) a7))))
theorem S4:Fn P w K mg base 3 "is_borne" eF:=T.d49.fq T.hX se ["book","known","number"] 3 λnd G hu=>
  (aO (qI (a0 (Uz T) G) (cC (a0 (Rg T) G))))
theorem U0:Fn P w K mg base 1 "covers" iG:=T.d50.fq T.hX sf ["matters","some"] 2 λnd G hu=>
  (aO (bO (cz hu) (aW Pl (ak 0) (ak 1)) (ak 1)))
theorem U1:Fn P w K mg base 3 "reach_bar" iY:=T.d51.fq T.hX pC ["row","above"] 2 λnd G hu=>
  (aq (bp (cu (b9 (aY (U0 T) G (ai (a0 (jV T) G) (ai (a0 (jV T) G) ao))))) a7)
   (aq (bp (gQ (kx (aC (cz hu) (a0 (qc T) G) a7) (iU (aC MB (a0 (jV T) G) (a0 (jV T) G))))) a7)
   (aO cQ)))
theorem Wi:Fn P w K mg base 8 "office_bar" hV:=T.d52.fq T.hX nJ ["claimed","row","root"] 3 λnd G hu=>
  (aq (bp (cu (b9 (aY (S3 T) G (aM 0 (aM 2 (ai (a0 (jV T) G) (ai (a0 (EH T) G) ao))))))) a7)
   (aO (a0 (U1 T) G)))
theorem Wj:Fn P w K mg base 9 "office_bases" iH:=T.d53.fq T.hX kY ["book","known","claimed","number","row","bearing"] 4 λnd G hu=>
  (aq (aP nd (bd (ak 0) (ak 3)))
   (aq (lQ ["root","claimed","row"] nd (C7 (a0 (S1 T) G)) (dX (aC wW (a0 (Wi T) G) cQ)) (ak 0))
   (aO (ge ["root","claimed","row"] (bP (ak 5)) ir (bv (ai a7 (ai (a0 (jV T) G) (ai (bd (aY (Ux T) G (aM 1 (aM 0 (ai (a0 (EH T) G) ao)))) a8) ao))))))))
theorem Wk:Fn P w K mg base 1 "ends_within" jm:=T.d54.fq T.hX lX ["stop","bound"] 2 λnd G hu=>
  (aq (bp (aC wW (ak 1) cQ) cI)
   (aO (du (bO wZ (ak 0) cQ) (cC (bO gY (ak 0) (ak 1))))))
theorem Wl:Fn P w K mg base 2 "is_within" iZ:=T.d55.fq T.hX pD ["one","other"] 2 λnd G hu=>
  (aO (du (bO gY (be 1) (be 0)) (cC (aY (Wk T) G (ai (be 0) (ai (be 1) ao))))))
theorem U2:Fn P w K mg base 5 "is_ahead" gz:=T.d56.fq T.hX sg ["book","one","other"] 3 λnd G hu=>
  (aO (bO (P2 hu) (a0 (Rf T) G) (a0 (Rf T) G)))
theorem Wm:Fn P w K mg base 6 "leave_bar" ja:=T.d57.fq T.hX pF ["book","number","leave","row","stretch"] 3 λnd G hu=>
  (aq (aP nd (bd (ak 0) (ak 1)))
   (aq (aP nd (aY (jV T) G (ai (bd (ak 0) (ak 2)) (ai a7 ao))))
   (aq (bp (cu (b9 (a0 (U2 T) G))) a7)
   (aq (bp (gQ (eY (cu (b9 (aY (Sz T) G (ai (a0 (EH T) G) (aM 4 ao))))) (dY (cu (b9 (aY (Wl T) G (ai (a0 (jV T) G) (aM 4 ao)))))))) a7)
   (aO (aY (U1 T) G (aM 3 (ai (bd (ak 0) (ak 2)) ao))))))))
theorem Wn:Fn P w K mg base 3 "leaves_to" kZ:=T.d58.fq T.hX pG ["book","known","person","leaves"] 3 λnd G hu=>
  (aq (lQ ["number","book","known"] nd (bP (a0 (Ql T) G)) (dX (b9 (a0 (Uz T) G))) (ak 0))
   (aO (ge ["number","person","book"] (bP (ak 3)) (dX (aC (cz hu) (aY (jV T) G (ai (bd (ak 2) (ak 0)) (ai a7 ao))) (ak 1))) (ak 0))))
theorem Wo:Fn P w K mg base 7 "leave_bases" jn:=T.d59.fq T.hX lY ["book","known","number","leaves"] 3 λnd G hu=>
  (aq (aP nd (aY (Wn T) G (aM 0 (aM 1 (ai (aY (jV T) G (ai (bd (ak 0) (ak 2)) (ai a7 ao))) ao)))))
   (aO (ge ["leave","book","number"] (bP (ak 3)) (dX (aC wW (a0 (Wm T) G) cQ)) (bv (ai a7 (aM 0 ao))))))
theorem Wp:Fn P w K mg base 6 "copy_bases" jP:=T.d60.fq T.hX nL ["book","known","number","of"] 3 λnd G hu=>
  (aq (aP nd (aY (jV T) G (ai (bd (ak 0) (ak 2)) (ai a7 ao))))
   (aq (bp (gQ (kx (b9 (a0 (Rg T) G)) (iU (b9 (a0 (U2 T) G))))) (dv (ai (bv (ai a7 (aM 3 ao))) ao)))
   (aO (dv ao))))
theorem Wq:Fn P w K mg base 10 "bases_by" fH:=T.d61.fqL T.hX si ["book","known","claimed","number","found"] 4 λnd G hu M=>
  (aq (bp (cu (b9 (a0 (S4 T) G))) (dv ao))
   (aq (bp (aC (cz hu) (aY (qc T) G (ai (bd (ak 0) (ak 3)) ao)) a7) (a0 (Wp T) G))
   (aq (aP nd (aW dz (a0 (Wj T) G) (a0 (Wo T) G)))
   (aO (Gs (GJ hu) T.n14 (ak 4) (AZ (cap:=[]) (N':=["base"]) (by decide +kernel) T.l61 M rfl rfl (Gp (by decide +kernel) rfl rfl rfl rfl rfl) rfl (.nil rfl) rfl G.in1.in1 (λ_ _ _ _=>rfl) λ_ _ _ _ G=>have hu:=DJ G;(bv (ai (bd (ak 0) (Lf Li a8)) (aM 0 ao)))))))))
theorem Wr:Fn P w K mg base 8 "may_call" mw:=T.d62.fq T.hX sj ["book","known","claimed","call","number","row","caller","over"] 5 λnd G hu=>
  (aq (aP nd (bd (ak 0) (ak 4)))
   (aq (aP nd (aY (jV T) G (ai (bd (ak 0) (ak 3)) (ai a7 ao))))
   (aq (bp (aC (cz hu) (ak 6) (a0 (jV T) G)) cI)
   (aq (bp (aC (cz hu) (a0 (qc T) G) a7) cI)
   (aq (lQ ["root","row"] nd (C7 (a0 (S1 T) G)) (dX (b9 (aY (U0 T) G (ai (a0 (jV T) G) (ai (a0 (jV T) G) ao))))) (ak 0))
   (aO (aI Lk T.n1 Ll (ai (ge ["root","claimed","caller","book","call"] (bP (ak 7)) ir (aY (S3 T) G (aM 1 (aM 0 (aM 2 (ai (aY (EH T) G (ai (bd (ak 3) (ak 4)) ao)) ao)))))) ao))))))))
theorem Ws:Fn P w K mg base 10 "calls_in" jQ:=T.d63.fq T.hX sk ["book","known","claimed","call","number","day","row"] 6 λnd G hu=>
  (aq (aP nd (bd (ak 0) (ak 3)))
   (aq (bp (gQ (eY (aC (wU hu) (a0 (qc T) G) a7) (eY (aC (wU hu) (a0 (jV T) G) (ak 4)) (dY (aC AD (a0 (EH T) G) (ak 5)))))) cI)
   (aO (du (a0 (Rh T) G) (cC (a0 (Wr T) G))))))
theorem U3:Fn P w K mg base 11 "calls_by" jR:=T.d64.fq T.hX sn ["book","known","claimed","number","day"] 5 λnd G hu=>
  (aq (bp (cu (b9 (a0 (S4 T) G))) (dv ao))
   (aO (ge ["call","book","known","claimed","number","day"] (bP (a0 (Ql T) G)) (dX (b9 (a0 (Ws T) G))) (ak 0))))
theorem Wt:Fn P w K mg base 12 "is_fit" nM:=T.d65.fq T.hX z4 ["book","known","claimed","number","day"] 5 λnd G hu=>
  (aq (bp (gQ (eY (cu (b9 (a0 (Rh T) G))) (dY (aC AD (aY (EH T) G (ai (bd (ak 0) (ak 3)) ao)) (ak 4))))) cI)
   (aO (bO (cz hu) (aI fg T.n7 eM (ai (a0 (U3 T) G) ao)) a8)))
theorem Wu:Fn P w K mg base 13 "links" xF:=T.d66.fq T.hX CM ["book","known","day","claimed","found","number"] 3 λnd G hu=>
  (aq (Je (i:=3) nd (a0 (Uy T) G))
   (aq (C4 (i:=4) nd)
   (aq (lR (bP (a0 (Sx T) G)) (C9 5 nd) eX (bD (jY (gQ (kx (b9 (a0 (S4 T) G)) (iU (b9 (a0 (Wt T) G))))) (bD (GP (i:=4) (P4 hu) (a0 (Wq T) G) (ak 5))) jF)))
   (bD (lx 4)))))
theorem Wv:Fn P w K mg base 1 "bears" nN:=T.d67.fq T.hX CN ["base","among"] 2 λnd G hu=>
  (aO (qI (bO (cz hu) (be 0) a7) (cC (Nc (P4 hu) (be 0) (ak 1)))))
theorem Ww:Fn P w K mg base 2 "stood" xG:=T.d68.fq T.hX CO ["found","stands","number","resting"] 1 λnd G hu=>
  (aq (C4 (i:=1) nd)
   (aq (lR (GO (ak 0)) (w6 rfl (gE (C9 2 nd) (gE (C9 3 nd) qe))) Lm (bD (jY (b9 (aI Lk T.n1 Ll (ai (ge ["base","stands"] (bP (ak 3)) ir (a0 (Wv T) G)) ao))) (bD (J7 (i:=1) (P4 hu) cI (ak 2))) jF)))
   (bD (lx 1))))
theorem Wx:Fn P w K mg base 14 "standing" iI:=T.d69.fq T.hX sq ["book","known","day"] 3 λnd G hu=>
  (aO (aI (Er rfl) T.n14 qY (ai (aY (Ww T) G (ai (a0 (Wu T) G) ao)) ao)))
theorem U4:Fn P w K mg base 3 "paper_behind" dh:=T.d70.fq T.hX la ["book","number","row"] 2 λnd G hu=>
  (aq (aP nd (bd (ak 0) (ak 1)))
   (aq (yw 1000 PassesOwn.never (aC (cz hu) (a0 (qc T) G) a7) (bD (aP nd (bd (ak 0) (a0 (jV T) G)))))
   (bD (lx 2))))
theorem Wy:Fn P w K mg base 15 "holding" lF:=T.d71.fq T.hX wa ["book","known","day","stands"] 3 λnd G hu=>
  (aq (lQ ["number","book","known"] nd (bP (a0 (Wx T) G)) (dX (b9 (a0 (Rg T) G))) (ak 0))
   (aO (ge ["number","day","book"] (bP (ak 3)) (dX (b9 (aY (Sz T) G (aM 1 (ai (aY (jV T) G (ai (a0 (U4 T) G) (ai a7 ao))) ao))))) (ak 0))))
theorem Wz:Fn P w K mg base 4 "whom_of" lG:=T.d72.fq T.hX wb ["book","number"] 2 λnd G hu=>
  (aO (aY (jV T) G (ai (a0 (U4 T) G) (ai a7 ao))))
theorem U5:FnD P w K mg base 16 "holds" qt:=T.d73.fqD T.hX CP ["book","known","day","number","person"] 5 λnd G hu=>
  (aq (bp (aC js (ak 3) (a0 (Wy T) G)) cI)
   (aO (qI (bO wW (ak 4) cQ) (cC (bO ur (a0 (Wz T) G) (bv (ai cQ (aM 4 ao))))))))
theorem Ri:Fn P w K mg base 1 "_law_cell_at" bU:=T.d74.fq T.hX pH ["_law_script","_law_k"] 2 λnd G hu=>
  (aq (bp (aC pi (ak 1) (aI fg T.n7 eM (aM 0 ao))) (bd (ak 0) (ak 1)))
   (aO a8))
theorem S5:Fn P w K mg base 1 "_law_stream" fJ:=T.d75.fq T.hX sr ["_law_cell","_law_salt","_law_many","_law_found","_law_number","_law_k"] 3 λnd G hu=>
  (aq (aP nd (dv ao))
   (aq (aP nd (aW cX (aW dz (aW dz (aW oq (aW cX (ak 0) a8) a8) (aW oq (aW oq (ak 1) (ak 1)) a8)) a8) a8))
   (aq (Ls (yA T.n11 (ak 2)) (C9 5 nd) eX (aq (aP nd (aW cX (aW dz (aW dz (aW dz (aW oq (ak 4) (ak 4)) (aW oq a8 (ak 4))) (ak 5)) (ak 1)) a8))
   (bD (wR (i:=3) (ak 4)))))
   (bD (lx 3)))))
theorem W1:Fn P w K mg base 1 "_law_deed" su:=T.d76.fq T.hX z7 ["_law_xs","_law_k","_law_day","_law_people","_law_by","_law_other","_law_part","_law_near","_law_word"] 3 λnd G hu=>
  (aq (aP nd (dv (ai a7 (ai a7 (ai a7 ao)))))
   (aq (aP nd (bd (ak 3) (aW cX (aW cX (be 0) a8) a8)))
   (aq (aP nd (bd (ak 3) (aW cX (be 0) a8)))
   (aq (aP nd (bv (ai (aW cX (be 0) a8) (ai (bd (dv (ai cQ (ai (aW dz (aW dz (aW cX (be 0) a8) a8) (aW cX (aW me (be 0) a8) a8)) ao))) (aW cX (aW me (be 0) a8) a8)) ao))))
   (aq (aP nd (aI Pp T.n9 Po (fF (ai (aW dz (aW yv (aW yv (ak 1) a8) (aW cX (be 0) a8)) (aW oq (om Pw T.n5 Lj (ai (bO (cz hu) (aW cX (aW me (be 0) a8) a8) a8) ao)) a8)) ao))))
   (aq (aP nd (aW cX (be 0) a8))
   (aq (bp (aC (cz hu) (ak 8) a8) (bv (ai a7 (aM 2 (aM 4 (aM 5 (fF (ai (bv (fF (ai cQ ao))) (ai (aW cX (be 0) a8) ao)))))))))
   (aq (bp (aC pi (ak 8) a8) (bv (ai a7 (aM 2 (aM 4 (fF (aM 6 (ai (bd (dv (ai cQ (aM 5 ao))) (aW cX (be 0) a8)) (ai (bv (ai a7 (ai a7 ao))) ao)))))))))
   (aq (bp (aC (cz hu) (ak 8) a8) (bv (ai a7 (aM 2 (aM 4 (fF (aM 6 (ai cQ (aM 7 (ai (bv (ai (bv (fF (ai a7 ao))) ao)) ao))))))))))
   (aq (bp (aC pi (ak 8) a8) (bv (ai a7 (aM 2 (aM 4 (aM 7 ao))))))
   (aq (bp (aC (cz hu) (ak 8) a8) (bv (ai a7 (aM 2 (aM 4 (aM 7 ao))))))
   (aO (bv (ai (bd (dv (ai a7 (ai a7 ao))) (aW cX (be 0) a8)) (aM 2 (aM 5 ao))))))))))))))))
theorem W2:Fn P w K mg base 2 "_law_rows" sv:=T.d77.fq T.hX z8 ["_law_script","_law_rows_here","_law_cells","_law_cell","_law_xs","_law_day","_law_at"] 1 λnd G hu=>by
  refine @aq _ _ _ _ _ ?_ ?_
  ·exact(by refine @aP _ _ _ _ 1 _ _ nd ?_ rfl (by first|exact Or.inl rfl|exact Or.inr rfl) rfl (by first|exact .inl rfl|exact .inr rfl);refine @dv _ _ _ _ ?_;refine KE ?_ ?_;refine @bv _ _ _ _ _ ?_;refine @fF _ _ _ _ _ _ ?_;refine KE ?_ ?_;refine @bv _ _ _ _ _ ?_;refine EG ?_ ?_;exact a7;refine EG ?_ ?_;exact a7;refine @fF _ _ _ _ _ _ ?_;refine @fF _ _ _ _ _ _ ?_;refine EG ?_ ?_;exact a7;exact ao;exact ao;refine KE ?_ ?_;refine @bv _ _ _ _ _ ?_;refine @fF _ _ _ _ _ _ ?_;refine KE ?_ ?_;refine @bv _ _ _ _ _ ?_;refine EG ?_ ?_;exact a7;refine @fF _ _ _ _ _ _ ?_;refine EG ?_ ?_;exact a7;refine EG ?_ ?_;exact a7;exact ao;exact ao;exact ao)
  refine @aq _ _ _ _ _ ?_ ?_
  ·exact(jY (aC (cz hu) (aW cX (aY (Ri T) G (aM 0 (fF ao))) a8) a8) (bD (wR (i:=1) (bv (fF (ai (bv (ai a7 (fF (ai a7 (ai a7 ao))))) ao))))) jF)
  refine @aq _ _ _ _ _ ?_ ?_
  ·exact(aP nd (fj (ak 0) (fP a8) (fP a8)))
  refine @aq _ _ _ _ _ ?_ ?_
  ·exact(jY (aC (cz hu) (aW cX (aY (Ri T) G (aM 0 (fF ao))) a8) a8) (bD (aP nd (aW dz (ak 2) (aY (S5 T) G (ai (aY (Ri T) G (aM 0 (fF ao))) (fF (ai (aW yv a8 (aI fg T.n7 eM (aM 2 ao))) ao))))))) jF)
  refine @aq _ _ _ _ _ ?_ ?_
  ·exact(yH [2] (lR (bP (ak 2)) (C9 3 nd) eX (aq (aP nd (aY (S5 T) G (aM 3 (ai (aI fg T.n7 eM (aM 1 ao)) (fF ao))))) (aq (aP nd (aW cX (be 4) a8)) (aq (aP nd (aW dz (ak 5) (bd (dv (fF (fF (fF (ai (aW cX (aW me (be 4) a8) a8) ao))))) (aW cX (aW me (be 4) a8) a8)))) (bD (wR (i:=1) (bv (aM 6 (ai (aY (W1 T) G (aM 4 (ai (aI fg T.n7 eM (aM 1 ao)) (aM 5 ao)))) ao))))))))))
  exact(bD (lx 1))
theorem W3:Fn P w K mg base 12 "calls" qu:=T.d78.fq T.hX CQ ["book","known","number","day"] 4 λnd G hu=>
  (aO (aY (U3 T) G (aM 0 (aM 1 (ai (a0 (Uy T) G) (aM 2 (aM 3 ao)))))))
theorem W4:Fn P w K mg base 17 "_law_due" qw:=T.d79.fq T.hX CS ["_law_book","_law_known","_law_day","_law_number","_law_person","_law_order","_law_deed_here"] 6 λnd G hu=>
  (aq (aP nd (bd (bd (ak 0) (ak 3)) a8))
   (aq (bp (gQ (eY (aC AD (be 6) (ak 2)) (dY (cu (b9 (a0 (Rh T) G)))))) cI)
   (aq (bp (aC AD (aI fg T.n7 eM (ai (a0 (W3 T) G) ao)) a8) cI)
   (aq (bp (gQ (eY (aC js (be 6) (ak 5)) (dY (aC MB (rF (ak 5) (be 6)) (rF (ak 5) (ak 3)))))) cI)
   (aq (bp (aC js (bd (bd (bd (hs:=HU) (ak 0) (be 6)) a8) a8) (bv (ai a7 (ai a7 (ai a7 ao))))) cI)
   (aO (aY ((U5 T)).fn G (aM 0 (aM 1 (aM 2 (ai (be 6) (aM 4 ao))))))))))))
theorem head {fa:Addr}(O:mg "law" = some (.ref fa)):∃fd:FuncData,(∀(s:Shared)(u:Value),BindsTo s fd ⟨[u],[]⟩ [("_law_script",u)])/\∀base:Heap,K.In base->base.Ns mainGlobals mg->nW P w K mg base xZ 18 fa fd ["_law_script"] (F8 K F_law):=by
 have S:FnScope ["_law_script","_law_rows_here","_law_book","_law_xs","_law_known","_law_order","_law_copies","_law_number","_law_day","_law_person","_law_found","_law_other"] ["_law_script"] (aJ (dj 108)):=by refine⟨rfl,rfl,rfl,?_,rfl,?_,?_⟩<;>decide +kernel
 have ⟨h,X,G⟩:=T.hX;exact cJ.law T.d80 X G O S (λ_ _ _ _ _ _ u=>rfl) λbase U a f cW A outer s H E M=>have hu:=DJ M;have nd:=S.nd;(show um _ _ Lx from
  (aq (aP nd (a0 (W2 T) M))
   (aq (aP nd (a0 (VX T) M))
   (aq (aP nd (aY (S5 T) M (ai (aY (Ri T) M (aM 0 (fF ao))) (fF (fF ao)))))
   (aq (yH [3] (lR (bP (dv (ai (bd (dv (fF (ai (aW cX (be 3) a8) ao))) (aW cX (aW me (be 3) a8) a8)) ao))) (C9 4 nd) eX (aq (aP nd (a0 (Sx T) M))
   (aq (lQ ["_law_number","_law_book"] nd (bP (ak 5)) (dX (aC (cz hu) (bd (bd (bd (ak 1) (ak 0)) a8) a8) a7)) (ak 0))
   (bD (yH [6] (lR (bP (ak 6)) (C9 7 nd) eX (bD (yH [3] (lR (bP (dv (ai (aW cX (be 3) a8) (ai (aW dz a8 (aW cX (aW me (be 3) a8) a8)) (ai (aW dz a8 (aW cX (be 3) a8)) (fF ao)))))) (C9 8 nd) eX (aq (aP nd (bd (dv (ai cQ (ai a7 (ai a7 ao)))) (aW cX (aW dz (ak 7) (ak 8)) a8)))
   (aq (aP nd (aY ((U5 T)).fn M (aM 2 (aM 4 (aM 8 (aM 7 (aM 9 ao)))))))
   (aq (bp (aC (wU hu) (ak 10) (a0 (W4 T) M)) cI)
   (aq (aP nd (bd (bd (bd (ak 2) (ak 7)) a8) a8))
   (bD (bp (gQ (kx (b9 (ak 10)) (iU (aC (wU hu) (a0 (Uv T) M) (a0 (Uv T) M))))) cI))))))))))))))))
   (aO cI))))))
end
end Lw
end
namespace PySem.W.Fast
def tw16118005585811640894:=()
def tw9207726251755534898:=()
def tw10587302482921709501:=()
def tw710461159405005956:=()
def tw7961189720807805604:=()
def tw11418303034487668087:=()
def tw13856591983451966869:=()
def tw16548223298259915390:=()
def tw15538205014298024893:=()
def tw7900908305257876042:=()
def tw3135825691680047164:=()
def tw5076391277390621602:=()
def tw17340089269417660651:=()
def tw1574807709830195782:=()
def tw11911744219336016396:=()
def tw4831249362369620006:=()
def tw18242136698212457324:=()
def tw12022921864236004615:=()
def tw2288986311907755073:=()
def tw8785204180530388301:=()
def tw17445826962609705869:=()
def tw957317914384368854:=()
def tw6507486743863328385:=()
def tw1594296174537703112:=()
def tw16017743726211270073:=()
def tw17981442496966463640:=()
def tw2733509949848648667:=()
def tw4019303756560652731:=()
def tw1699109048999276236:=()
def tw2427733659565014509:=()
def tw17132766171401810976:=()
def tw1314351362675361624:=()
def tw15657854896727611766:=()
def tw1399686051046289491:=()
def tw5734306093687845185:=()
def tw1100154276899830359:=()
def tw2943140470568003933:=()
def tw12970170592910575468:=()
def tw13616135641325004672:=()
def tw17647777210791339324:=()
def tw12054574240470007847:=()
def tw8162215693503582854:=()
def tw15000199631400116598:=()
def tw7501165092579547260:=()
def tw1158061555360037474:=()
def tw7765900060187139844:=()
def tw15122014145596229578:=()
def tw17560594205671723554:=()
def tw3160080151253138002:=()
def tw3916432376336010414:=()
def tw14265043261325538509:=()
def tw6165650969308446353:=()
def tw10065520299027746102:=()
def tw15545516822811342742:=()
def tw16073406783013741445:=()
def tw6361865491837647329:=()
def tw8052252384456531843:=()
def tw10095058858054746310:=()
def tw460789970752877880:=()
def tw14686456885239506862:=()
def tw18097485223319746627:=()
def tw16120565552636196140:=()
def tw8847713768533342961:=()
def tw14020443878399312386:=()
def tw3875600328070157016:=()
def tw7151077467151507072:=()
def tw4344001638477459984:=()
def tw15660987825676028735:=()
def tw4324679892918952900:=()
def tw4798783543978461672:=()
def tw762739809545544891:=()
def tw12519308047077957963:=()
def tw17416500077141676160:=()
def tw4791281575853193258:=()
def tw13274201834522509174:=()
def tw454242038380310243:=()
def tw12471600881804395236:=()
def tw10965754732394488642:=()
def tw2090514988164685890:=()
def tw10475897778860556190:=()
def tw3496285482850189209:=()
def tw14346649066263498460:=()
def tw16186927672862162720:=()
def tw5583764812676399648:=()
def tw8583116817478375070:=()
def tw16793506929703087055:=()
def tw10106343121165870394:=()
def tw5578687959366696388:=()
def tw914834485484658301:=()
def tw481614376815665166:=()
def tw1796342719593741568:=()
def tw963992116421204076:=()
def tw1433606928393426913:=()
def tw13183956739152077287:=()
def tw12405946039337057665:=()
def tw6086005878074445181:=()
def tw4454467590542187876:=()
def tw5421062676522671970:=()
def tw18080585988287681464:=()
def tw15750623064566955498:=()
def tw10555143829552581814:=()
def tw11999863947759881614:=()
def tw4887514119863349659:=()
def tw14400800893273295433:=()
def tw3580488968661577984:=()
def tw13787375019821566233:=()
def tw10638814908459535852:=()
def tw2609991326431616421:=()
def tw4951243794247923634:=()
def tw13380543354249317712:=()
def tw13129695972400157467:=()
def tw871349176795023198:=()
def tw7459361323915382630:=()
def tw18423006192076115056:=()
def tw7153009656294773736:=()
def tw4434142434555029115:=()
def tw13366862188586605930:=()
def tw8036318929520979564:=()
def tw17241350237369426381:=()
def tw6640211156492325473:=()
def tw9777811137246048219:=()
def tw5580276250954476287:=()
def tw427971514687120241:=()
def tw8496112641527147506:=()
def tw12388973213606508639:=()
def tw10910275395819360770:=()
def tw5005705885472063404:=()
def tw6477884529090870614:=()
def tw18372347677325412022:=()
def tw15072079781605932582:=()
def tw2260342190849423640:=()
def tw12208895634814608137:=()
def tw1112338469805086165:=()
def tw11256562367005077542:=()
def tw3912241885563286802:=()
def tw10645833786033650761:=()
def tw9469186620455230558:=()
def tw6312034800813470429:=()
def tw13526682852180898709:=()
def tw16908439588780083708:=()
def tw15621526235401918011:=()
def tw18159773030300239246:=()
def tw3983500878741003314:=()
def tw11776423741657438725:=()
def tw1276657368104498000:=()
def tw11133824192178361360:=()
def tw9987293976456468743:=()
def tw3155425974154714404:=()
def tw16529155187365623379:=()
def tw16777490018845918482:=()
def tw411977005765596836:=()
def tw10990294463773100118:=()
def tw4134070168507929198:=()
def tw16295288213041879640:=()
def tw15969593257408474557:=()
def tw9974051174131476756:=()
def tw795829264010458607:=()
def tw6348122733837858026:=()
def tw16641985092305903120:=()
def tw15796240155283826526:=()
def tw3244205153532313594:=()
def tw7441600059647951802:=()
def tw9508391825141249164:=()
def tw13446626870711225434:=()
def tw3160587176750053264:=()
def tw13979356931623887692:=()
def tw486843698631219564:=()
def tw12317768366478546534:=()
def tw13485050220726688080:=()
def tw13219963825932300819:=()
def tw3598293202155781522:=()
def tw14783857710309414215:=()
def tw2323751782515302159:=()
def tw18104533542740869636:=()
def tw428255046009366663:=()
def tw17521187321520105595:=()
def tw13103811262726508436:=()
end PySem.W.Fast
open PySem PySem.W PyProof.Rows
set_option maxRecDepth 100000 in
set_option maxHeartbeats 0 in
theorem PySem.Challenge.cw_sealchain_k43_whole_copies_hold_as_paper_holds : PySem.Challenge.rw_sealchain_k43_whole_copies_hold_as_paper.Holds := by
 w_on; o_law; k_head; (case hw => w_witness2)
 k_fill
 refine' DL.walkD (l := PySem.Challenge.rw_sealchain_k43_whole_copies_hold_as_paper) (k := 18) (x := ("_law_script" : PySem.Str)) (f := Lw.F_law) (L := [(("in_order" : PySem.Str), ?t0), (("has_seal" : PySem.Str), ?t1), (("is_first_death" : PySem.Str), ?t2), (("bases_by" : PySem.Str), ?t3)]) rfl rfl ⟨rfl, by decide, by decide⟩ (fun w h Y => PySem.W.km_in_of Y) ?T ?D ?F Lw.law_true
 case T =>
  intro w
  refine' DL.tabs_fit ?h0 ?h1 ?h2 ?h3 ?ap ?nt
  (case h0 => refine' DL.tab_yes ?a ?l ?c ?m ?v; (case a => k_is); (case l => k_is); (case c => exact rfl); (case m => k_is); (case v => exact rfl))
  (case h1 => refine' DL.tab_yes ?a ?l ?c ?m ?v; (case a => k_is); (case l => k_is); (case c => exact rfl); (case m => k_is); (case v => exact rfl))
  (case h2 => refine' DL.tab_yes ?a ?l ?c ?m ?v; (case a => k_is); (case l => k_is); (case c => exact rfl); (case m => k_is); (case v => exact rfl))
  (case h3 => refine' DL.tab_yes ?a ?l ?c ?m ?v; (case a => k_is); (case l => k_is); (case c => exact rfl); (case m => k_is); (case v => exact rfl))
  (case ap => decide)
  (case nt => kernel_rfl)
 case D => kernel_rfl
 case F =>
  intro w mg fa h KX G hmg
  refine' Lw.head ⟨⟨h, KX, G⟩, ?d0, ?d1, ?d2, ?d3, ?d4, ?d5, ?d6, ?d7, ?d8, ?d9, ?d10, ?d11, ?d12, ?d13, ?d14, ?d15, ?d16, ?d17, ?d18, ?d19, ?d20, ?d21, ?d22, ?d23, ?d24, ?d25, ?d26, ?d27, ?d28, ?d29, ?d30, ?d31, ?d32, ?d33, ?d34, ?d35, ?d36, ?d37, ?d38, ?d39, ?d40, ?d41, ?d42, ?d43, ?d44, ?d45, ?d46, ?d47, ?d48, ?d49, ?d50, ?d51, ?d52, ?d53, ?d54, ?d55, ?d56, ?d57, ?d58, ?d59, ?d60, ?d61, ?d62, ?d63, ?d64, ?d65, ?d66, ?d67, ?d68, ?d69, ?d70, ?d71, ?d72, ?d73, ?d74, ?d75, ?d76, ?d77, ?d78, ?d79, ?d80, PySem.W.mg_none_of KX G ?z0, PySem.W.mg_none_of KX G ?z1, PySem.W.mg_none_of KX G ?z2, PySem.W.mg_none_of KX G ?z3, PySem.W.mg_none_of KX G ?z4, PySem.W.mg_none_of KX G ?z5, PySem.W.mg_none_of KX G ?z6, PySem.W.mg_none_of KX G ?z7, PySem.W.mg_none_of KX G ?z8, PySem.W.mg_none_of KX G ?z9, PySem.W.mg_none_of KX G ?z10, PySem.W.mg_none_of KX G ?z11, PySem.W.mg_none_of KX G ?z12, PySem.W.mg_none_of KX G ?z13, PySem.W.mg_none_of KX G ?z14, PySem.W.mg_none_of KX G ?z15, PySem.W.mg_none_of KX G ?z16, PySem.W.mg_none_of KX G ?z17, DL.kc_of KX G ?k0, DL.kc_of KX G ?k1, DL.kc_of KX G ?k2, DL.kc_of KX G ?k3, DL.kc_of KX G ?k4, DL.kc_of KX G ?k5, DL.kc_of KX G ?k6, DL.kc_of KX G ?k7, DL.kd_of KX G ?k8, DL.kc_of KX G ?k9, DL.kc_of KX G ?k10, DL.kc_of KX G ?k11, ?q0, ?q1, ?q2⟩ hmg
  iterate 73 (refine' DL.def_mk ?a ?l ?c ?k; (case a => k_is); (case l => k_is); (case c => k_is); (case k => k_is))
  (case d73 => refine' DL.defD_mk ?a ?l ?c ?k ?t; (case a => k_is); (case l => k_is); (case c => k_is); (case k => k_is); (case t => k_is))
  iterate 7 (refine' DL.def_mk ?a ?l ?c ?k; (case a => k_is); (case l => k_is); (case c => k_is); (case k => k_is))
  (case z0 => k_is)
  (case z1 => k_is)
  (case z2 => k_is)
  (case z3 => k_is)
  (case z4 => k_is)
  (case z5 => k_is)
  (case z6 => k_is)
  (case z7 => k_is)
  (case z8 => k_is)
  (case z9 => k_is)
  (case z10 => k_is)
  (case z11 => k_is)
  (case z12 => k_is)
  (case z13 => k_is)
  (case z14 => k_is)
  (case z15 => k_is)
  (case z16 => k_is)
  (case z17 => k_is)
  (case k0 => refine' DL.const_int ?e; (case e => k_is))
  (case k1 => refine' DL.const_int ?e; (case e => k_is))
  (case k2 => refine' DL.const_int ?e; (case e => k_is))
  (case k3 => refine' DL.const_int ?e; (case e => k_is))
  (case k4 => refine' DL.const_int ?e; (case e => k_is))
  (case k5 => refine' DL.const_int ?e; (case e => k_is))
  (case k6 => refine' DL.const_int ?e; (case e => k_is))
  (case k7 => refine' DL.const_tup ?e ?l ?v; (case e => k_is); (case l => k_is); (case v => decide +kernel))
  (case k8 => refine' DL.const_dict ?e ?l ?r ?s; (case e => k_is); (case l => k_is); (case r => refine' (DL.CRows.tup rfl ?l0 ?f0 (DL.CRows.tup rfl ?l1 ?f1 (DL.CRows.tup rfl ?l2 ?f2 (DL.CRows.tup rfl ?l3 ?f3 (DL.CRows.tup rfl ?l4 ?f4 (DL.CRows.tup rfl ?l5 ?f5 (DL.CRows.tup rfl ?l6 ?f6 (DL.CRows.tup rfl ?l7 ?f7 (DL.CRows.tup rfl ?l8 ?f8 (DL.CRows.tup rfl ?l9 ?f9 (DL.CRows.tup rfl ?l10 ?f10 (DL.CRows.tup rfl ?l11 ?f11 DL.CRows.nil)))))))))))); (case l0 => k_is); (case f0 => decide +kernel); (case l1 => k_is); (case f1 => decide +kernel); (case l2 => k_is); (case f2 => decide +kernel); (case l3 => k_is); (case f3 => decide +kernel); (case l4 => k_is); (case f4 => decide +kernel); (case l5 => k_is); (case f5 => decide +kernel); (case l6 => k_is); (case f6 => decide +kernel); (case l7 => k_is); (case f7 => decide +kernel); (case l8 => k_is); (case f8 => decide +kernel); (case l9 => k_is); (case f9 => decide +kernel); (case l10 => k_is); (case f10 => decide +kernel); (case l11 => k_is); (case f11 => decide +kernel)); (case s => decide +kernel))
  (case k9 => refine' DL.const_tup ?e ?l ?v; (case e => k_is); (case l => k_is); (case v => decide +kernel))
  (case k10 => refine' DL.const_tup ?e ?l ?v; (case e => k_is); (case l => k_is); (case v => decide +kernel))
  (case k11 => refine' DL.const_tup ?e ?l ?v; (case e => k_is); (case l => k_is); (case v => decide +kernel))
  (case q0 => refine' DL.lam_mk ?a ?l ?c ?m ?v1 ?v2 ?v3 ?v4 ?v5 ?v6 ?v7; (case a => k_is); (case l => k_is); (case c => exact rfl); (case m => k_is); (case v1 => exact rfl); (case v2 => exact rfl); (case v3 => exact rfl); (case v4 => exact rfl); (case v5 => exact rfl); (case v6 => exact rfl); (case v7 => decide))
  (case q1 => refine' DL.lam_mk ?a ?l ?c ?m ?v1 ?v2 ?v3 ?v4 ?v5 ?v6 ?v7; (case a => k_is); (case l => k_is); (case c => exact rfl); (case m => k_is); (case v1 => exact rfl); (case v2 => exact rfl); (case v3 => exact rfl); (case v4 => exact rfl); (case v5 => exact rfl); (case v6 => exact rfl); (case v7 => decide))
  (case q2 => refine' DL.lam_mk ?a ?l ?c ?m ?v1 ?v2 ?v3 ?v4 ?v5 ?v6 ?v7; (case a => k_is); (case l => k_is); (case c => exact rfl); (case m => k_is); (case v1 => exact rfl); (case v2 => exact rfl); (case v3 => exact rfl); (case v4 => exact rfl); (case v5 => exact rfl); (case v6 => exact rfl); (case v7 => decide))

