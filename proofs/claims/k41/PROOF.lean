import PyProof.Rows.All
import Wide.All
import OpenK.AllK
import Wide.FinOn
import Lean
import PyProof.EqAt
import PyProof.EqKinds
import PyProof.TupleCall
import PyProof.AttrMissHeap
import PySem.Challenge.RW_sealchain_k41_days_on_which_papers_hold
set_option Elab.async false
set_option linter.all false
set_option maxRecDepth 100000
set_option bootstrap.genMatcherCode false
set_option compiler.extract_closed false
set_option maxHeartbeats 40000000
def mY {α:Type _}{a:α}(l:List α){k:List α}(h:a∈k):a∈l++k:=List.mem_append_right l h
def mZ {α:Type _}(b:α){a:α}{l:List α}(h:a∈l):a∈b::l:=List.mem_cons_of_mem b h
def mX {α:Type _}{a:α}{l:List α}:a∈a::l:=List.mem_cons_self
def oX {α G:Type _}{o:Option α}{f:α->Option G}{b:G}(h:o.bind f=some b):∃a,o=some a/\f a=some b:=Option.bind_eq_some_iff.mp h
def oY {α G:Type _}{f:α->G}{o:Option α}{b:G}(h:o.map f=some b):∃a,o=some a/\f a=b:=Option.map_eq_some_iff.mp h
def wX:=@PySem.wpAny_bind
def wY:=@PySem.wpAny_pure
def vZ:=@PySem.Heap.get?_push_of_some
def vY:=@PySem.Heap.get?_push_size
def vX:=@PySem.Heap.lt_size
def vW:=@PySem.Heap.SameBut.update
def vV {α:Type _}{l:List α}{i:Nat}{a:α}(h:l[i]? = some a):∃h:i<l.length,l[i]=a:=List.getElem?_eq_some_iff.mp h
def vU {α:Type _}{l:List α}{i:Nat}(h:i<l.length):l[i]? = some l[i]:=List.getElem?_eq_getElem h
def vT (n:Nat):n<=n:=Nat.le_refl n
def vS {a b:Nat}(h:a<b):a≠b:=Nat.ne_of_lt h
def vR {n m k:Nat}:n<=m->m<=k->n<=k:=Nat.le_trans
def vQ {n m k:Nat}:n<m->m<=k->n<k:=Nat.lt_of_lt_of_le
def vP {α:Type _}{a b:α}{l:List α}(h:b∈a::l):b=a∨b∈l:=List.mem_cons.mp h
def vO {α G:Type _}{b:G}{f:α->G}{l:List α}(h:b∈l.map f):∃a,a∈l/\f a=b:=List.mem_map.mp h
def vN {α:Type _}{a:α}{p:α->Bool}{l:List α}(h:a∈l.filter p):a∈l/\p a=true:=List.mem_filter.mp h
def vM {α:Type _}(p:α->Bool)(l:List α):(l.filter p).length<=l.length:=List.length_filter_le p l
def vL {α:Type _}{l:List α}{i:Nat}{a:α}(h:l[i]? = some a):a∈l:=List.mem_of_getElem? h
def vK {α:Type _}{a b:α}(h:some a=some b):a=b:=Option.some.inj h
def vJ {α G:Type _}(a:α)(f:α->Option G):(some a).bind f=f a:=rfl
def vI {α M:Type _}{G:List α}(f:α->M):(G.map f).length=G.length:=List.length_map f
def vH {α:Type _}{l:List α}:l.toArray.size=l.length:=rfl
def vG {α:Type _}{xs:Array α}:xs.toList.length=xs.size:=rfl
def vF {α:Type _}{l:List α}{i:Nat}{a:α}:l.getD i a=l[i]?.getD a:=List.getD_eq_getElem?_getD
def vE {α:Type _}{a:α}{G:List α}:(a::G).length=G.length+1:=rfl
def vC (a b:Bool):((a && b)=true)=(a=true/\b=true):=Bool.and_eq_true a b
def vB {α:Type _}{i j:Nat}{a:α}{l:List α}(h:i≠j):(l.set i a)[j]? = l[j]?:=List.getElem?_set_ne h
def vA {α G:Type _}{f:α->G}{l:List α}{i:Nat}:(l.map f)[i]? = Option.map f l[i]?:=List.getElem?_map
def uZ {α:Type _}{G bs:List α}:(G++bs).length=G.length+bs.length:=List.length_append
def uY {α G:Type _}{f:α->G}{a:α}{l:List α}:(a::l).map f=f a::l.map f:=rfl
def uX:false≠true:=Bool.false_ne_true
def uW {α M:Type _}{f:α->M}{l G:List α}:(l++G).map f=l.map f++G.map f:=List.map_append
def uV:(false=true)=False:=Bool.false_eq_true
def uU {α:Type _}{x:Option α}(h:x.isSome=true):∃a,x=some a:=Option.isSome_iff_exists.mp h
def uT {α:Type _}{a b:α}(h:a∈[b]):a=b:=List.mem_singleton.mp h
def uS {α G:Type _}{b:G}{f:α->G}{l:List α}(h:∃a,a∈l/\f a=b):b∈l.map f:=List.mem_map.mpr h
def uR {α:Type _}{l:List α}{p:α->Bool}(h:l.all p=true):∀x∈l,p x=true:=List.all_eq_true.mp h
def uQ {α:Type _}(G:List α):G++[]=G:=List.append_nil G
def uP {α G M:Type _}{g:G->M}{f:α->G}{l:List α}:(l.map f).map g=l.map (g ∘ f):=List.map_map
def uN (n:Nat):0<=n:=Nat.zero_le n
def Au {p:Prop}[Decidable p](h:p):decide p=true:=decide_eq_true h
def Pz {p:Prop}[Decidable p](h:¬p):decide p=false:=decide_eq_false h
def RV {p:Prop}[Decidable p](h:decide p=true):p:=of_decide_eq_true h
noncomputable section
open PySem.W (Frag kia_one fnOf nsIn mg_of)
open List (mem_filter mem_range mem_append mem_append_left mem_filterMap nodup_cons of_mem_zip length_take getElem?_append_right getElem?_replicate getElem?_append_left take_sublist length_replicate length_drop all_cons any_cons length_singleton map_nil find?_cons length_nil nodup_nil length_set forIn_cons lookup_cons append_assoc not_mem_nil length_range mem_singleton forIn_nil lookup_cons_self getElem_mem nodup_append foldl_cons foldl_append getElem?_cons_succ take_add_one mem_cons getElem?_eq_none ext_getElem? not_lt le_trans le_antisymm pairwise_cons lt_irrefl lt_trans nil_perm filter_cons cons_lt_cons_iff cons_append flatMap_cons zip_cons_cons getD_cons_succ getElem?_zip_eq_some mem_iff_getElem? length_zip zipWith_cons_cons take_length all_eq_true all_nil length_zipIdx zip_map' filter_sublist pairwise_map filter_cons_of_pos filter_cons_of_neg filter_append map_id)
open Nat (le_of_lt ne_of_gt le_of_eq lt_succ_self le_succ_of_le le_succ lt_of_le_of_lt le_add_right lt_succ_of_lt)
open Int (toNat_natCast le_refl)
open Array (toList_push getElem?_toList getD_eq_getD_getElem? getElem?_eq_getElem toList_inj)
open Option (getD_none isSome_map isNone_some toList_some map_some)
open PySem.F (slot_tuple_add slot_dict_get entry_dict_get plainAttrs_dict slot_tuple_iterator_next slot_zip_next entry_zip_next args_zip_next_1 plain_set_new called_set slot_set_iter plain_extend_loop slot_tuple_lt slot_tuple_gt slot_list_getattribute)
abbrev QV:=PySem.Value->PySem.Shared->Prop
abbrev AO:=List (PySem.Addr×PySem.Obj)
abbrev SV:=PySem.Str->Option PySem.Value
abbrev LU:=List PySem.Value
abbrev AV:=Array PySem.Value
abbrev LS:=List PySem.Str
abbrev QD:=List PySem.Expr
abbrev LN:=List Nat
abbrev LI:=List Int
abbrev OI:=Option Int
namespace L2
open PySem PySem.Spec PyProof.Rows
abbrev eQ:=Sum Int Str
noncomputable def ur:eQ->Value->Bool
 |.inl k,v=>Value.isInt k v
 |.inr x,v=>Value.isStrOf x v
noncomputable def QL (w:World):eQ->Int
 |.inl k=>hashInt k
 |.inr x=>hashStr w x
theorem cG:∀ {k:eQ}{v:Value},ur k v=true->(∃i t,k=Sum.inl i/\v=Value.int i t)∨(∃x t,k=Sum.inr x/\v=Value.str x t)
 |.inl i,v,h=>by
  obtain⟨t,e⟩:=Value.isInt_shape (k:=i) (v:=v) h;exact .inl ⟨i,t,rfl,e⟩
 |.inr x,v,h=>by
  obtain⟨t,e⟩:=Value.isStrOf_shape (x:=x) (v:=v) h;exact .inr ⟨x,t,rfl,e⟩
def Dh (i:Int)(t:Tok):ur (.inl i) (.int i t)=true:=by simp[ur,Value.isInt]
def Di (x:Str)(t:Tok):ur (.inr x) (.str x t)=true:=by simp[ur,Value.isStrOf]
def KY (a b:Int):decide ((Sum.inl a:eQ)=Sum.inl b)=(a == b):=by
 by_cases e:a=b
 ·subst e;simp
 ·have h:¬(Sum.inl a:eQ)=Sum.inl b:=λq=>e (Sum.inl.inj q);rw[Pz h];exact(beq_eq_false_iff_ne.mpr e).symm
def KZ (a b:Str):decide ((Sum.inr a:eQ)=Sum.inr b)=decide (a=b):=by
 by_cases e:a=b
 ·subst e;simp
 ·have h:¬(Sum.inr a:eQ)=Sum.inr b:=λq=>e (Sum.inr.inj q);rw[Pz h,Pz e]
def La (a:Int)(b:Str):decide ((Sum.inl a:eQ)=Sum.inr b)=false:=Pz (λq=>nomatch q)
def Lb (a:Str)(b:Int):decide ((Sum.inr a:eQ)=Sum.inl b)=false:=Pz (λq=>nomatch q)
def cw (prog:Program)(w:World):PySem.KeyKind prog w eQ where
 is:=ur
 hash:=QL w
 inj:=λv a b ha hb=>by
  rcases cG ha with⟨i,t,rfl,rfl⟩|⟨x,t,rfl,rfl⟩
  ·rcases cG hb with⟨j,u,rfl,e⟩|⟨y,u,rfl,e⟩
   ·injection e with G _;rw[G]
   ·exact nomatch e
  ·rcases cG hb with⟨j,u,rfl,e⟩|⟨y,u,rfl,e⟩
   ·exact nomatch e
   ·injection e with G _;rw[G]
 byValue:=λk v h=>by
  rcases cG h with⟨i,t,rfl,rfl⟩|⟨x,t,rfl,rfl⟩<;>rfl
 pyHash:=λhv h=>by
  rcases cG hv with⟨i,t,rfl,rfl⟩|⟨x,t,rfl,rfl⟩
  ·exact wpAny_pyHash_int h
  ·exact wpAny_pyHash_str h
 eqBool:=λhu hv h=>by
  rcases cG hu with⟨i,t,rfl,rfl⟩|⟨x,t,rfl,rfl⟩
  ·rcases cG hv with⟨j,u,rfl,rfl⟩|⟨y,u,rfl,rfl⟩
   ·rw[KY]at h;exact wpAny_eqBool_int h
   ·rw[La]at h;exact SeqAt.EqAt.int_str i t y u _ _ _ _ h
  ·rcases cG hv with⟨j,u,rfl,rfl⟩|⟨y,u,rfl,rfl⟩
   ·rw[Lb]at h;exact SeqAt.EqAt.str_int x t j u _ _ _ _ h
   ·rw[KZ]at h;exact wpAny_eqBool_str h
 «strs»:=λk x t v h=>by
  rcases cG h with⟨i,u,rfl,e⟩|⟨y,u,rfl,e⟩
  ·exact nomatch e
  ·injection e with G _;subst G;cases v<;>rfl
def yk (prog:Program)(w:World)(i:Int)(t:Tok):(cw prog w).is (.inl i) (.int i t)=true:=Dh i t
def ym (prog:Program)(w:World)(x:Str)(t:Tok):(cw prog w).is (.inr x) (.str x t)=true:=Di x t
inductive V where
 |non|bl (b:Bool)|int (i:Int)|str (x:Str)|byt (b:Array UInt8)|flt (b:UInt64)|ref (a:Addr)|ty (n:String)
 deriving DecidableEq
def bd:V->Value->Prop
 |.non,u=>u=Value.none
 |.bl b,u=>u=Value.bool b
 |.int i,u=>∃t,u=Value.int i t
 |.str x,u=>∃t,u=Value.str x t
 |.byt b,u=>∃t,u=Value.bytes b t
 |.flt b,u=>∃t,u=Value.float b t
 |.ref a,u=>u=Value.ref a
 |.ty n,u=>u=Value.type n
abbrev bu:List V->LU->Prop:=Paired bd
def bu.length (r:bu xs us):xs.length=us.length:=Paired.length r
theorem bu.get:∀ {xs:List V}{us:LU}{i:Nat}{x:V},bu xs us->xs[i]? = some x->∃u,us[i]? = some u/\bd x u
 |_,_,_,_,.nil,e=>by simp at e
 |_,_,0,_,.cons r _,e=>by simp at e;subst e;exact⟨_,rfl,r⟩
 |_,_,i+1,x,.cons _ t,e=>by
  obtain⟨u,h1,h2⟩:=bu.get (i:=i) (x:=x) t (by simpa using e);exact⟨u,by simpa using h1,h2⟩
theorem bu.set (r:bd x u):∀ {xs:List V}{us:LU}(i:Nat),bu xs us->bu (xs.set i x) (us.set i u)
 |_,_,_,.nil=>.nil
 |_,_,0,.cons _ t=>.cons r t
 |_,_,i+1,.cons q t=>.cons q (bu.set r i t)
theorem bu.append:∀ {xs ys:List V}{us G:LU},bu xs us->bu ys G->bu (xs++ys) (us++G)
 |_,_,_,_,.nil,s=>s
 |_,_,_,_,.cons r t,s=>.cons r (bu.append t s)
theorem bu.take:∀ {xs:List V}{us:LU}(n:Nat),bu xs us->bu (xs.take n) (us.take n)
 |_,_,0,_=>.nil
 |_,_,_+1,.nil=>.nil
 |_,_,n+1,.cons r t=>.cons r (bu.take n t)
theorem bu.drop:∀ {xs:List V}{us:LU}(n:Nat),bu xs us->bu (xs.drop n) (us.drop n)
 |_,_,0,r=>r
 |_,_,_+1,.nil=>.nil
 |_,_,n+1,.cons _ t=>bu.drop n t
def bu.none_of:∀ {xs:List V}{us:LU}{i:Nat},bu xs us->xs[i]? = none->us[i]? = none:=λ{xs us i} r e=>by
 have h1:=r.length;have h2:xs.length<=i:=List.getElem?_eq_none_iff.mp e;exact List.getElem?_eq_none_iff.mpr (by omega)
def pO:Option V->Option Value->Prop
 |some v,some u=>bd v u
 |none,none=>True
 |_,_=>False
def KV {κ:Type}:List (κ×V)->List (κ×Value)->Prop:=Paired λ(p:κ×V) (q:κ×Value)=>p.1=q.1/\bd p.2 q.2
noncomputable def kV:eQ->V
 |.inl i=>.int i
 |.inr x=>.str x
inductive HO where
  |lst (xs:List V)
  |tup (xs:List V)
  |dK (aO:List (eQ×V)) (ob:Obj)|dT (aO:List (List eQ×V))
  |set (S:Int->Bool) (n:Nat)
  |ins (C dx:Addr) (fs:List (Str×V))
  |own (x:Addr)
  |xd (fs:List (Str×V))
  |met (f x:Addr)
  |rng (lo hi:Int)
  |frz (o:Obj) (u:HO)
  |tbl (q:Str)
  |ext (φ:Heap->Prop)
abbrev Hp:=Addr->Option HO
noncomputable def upd (H:Hp)(a:Addr)(o:HO):Hp:=λb=>if b=a then some o else H b
def aC:upd H a o a=some o:=by unfold upd;rw[if_pos rfl]
def aG (h:b≠a):upd H a o b=H b:=by unfold upd;rw[if_neg h]
def mE:upd (upd H a o) a u=upd H a u:=by
 funext b;unfold upd;split<;>rfl
def NN {H:Hp}{a b:Addr}{o u:HO}(h:H a=some o)(h':H b=some u)(d:o≠u):a≠b:=by
 intro e;subst e;rw[h]at h';exact d (vK h')
def bf {H:Hp}{a b:Addr}{o:HO}(h:H a=some o)(h':H b=none):a≠b:=by
 intro e;subst e;rw[h]at h';cases h'
section
variable (P:Program) (w:World)
def bN (H:Hp)(h:Heap)(a:Addr):HO->Prop
 |.lst xs=>xs.length<=sizeLine/\∃(its:LU)(n:Nat),bu xs its/\h.get? a=some { cls:=.type "list",data:=.seq its.toArray n }
 |.tup xs=>xs.length<=sizeLine/\∃its:LU,bu xs its/\IsTup h a its.toArray
 |.dK aO ob=>h.get? a=some ob/\aO.length<=sizeLine/\(a == sysModules)=false/\∃vs,KV aO vs/\h.DictOf (cw P w) a vs
 |.dT aO=>aO.length<=sizeLine/\(a == sysModules)=false/\∃xs:List (List eQ×Addr×Value),
   Paired (λ(p:List eQ×V) (q:List eQ×Addr×Value)=>p.1=q.1/\H q.2.1=some (.tup (p.1.map kV))/\bd p.2 q.2.2) aO xs /\
   ∃o es O,h.get? a=some o/\o.ExactDict/\o.data=.dict es O/\es.toList=xs.map (entryOfKey (tupleKind (cw P w)))/\(xs.map (·.1)).Nodup
 |.set S n=>h.SetOf (intKind P w) a S n
 |.ins C dx fs=>H dx=some (.own a)/\fs.length<=1000/\dx≠a/\h.get? a=some (PySem.W.instObj C dx) /\
   ∃mA,h.Ns1 dx mA/\(∀f,pO (fs.lookup f) (mA f))/\PySem.Within mA (fs.map (·.1))
 |.own _=>∃o,h.get? a=some o
 |.xd fs=>∃mA,h.Ns1 a mA/\∀f,pO (fs.lookup f) (mA f)
 |.rng lo hi=>∃t u v,h.get? a=some { cls:=.type "range",data:=.fields #[.int lo t,.int hi u,.int 1 v] }
 |.frz o u=>h.get? a=some o/\bN H h a u
 |.tbl q=>∃ps:AV,h.get? a=some { cls:=.none,data:=.fields ps }/\TriplesOk ps.toList/\∀G M,codeAmong G ps.toList=some M->∃(c:Addr)(oc:Obj)(u:HO)(vs:AV)(t:Tok),M=.ref c/\H c=some (.frz oc u)/\oc.data=.fields vs/\vs[1]? = some (.str q t)
 |.met f x=>h.get? a=some (PySem.W.methodObj (.ref f) (.ref x))
 |.ext φ=>φ h/\(∃o,h.get? a=some o)/\∀h1 h2:Heap,φ h1->(∀o,h1.get? a=some o->h2.get? a=some o)->φ h2
def lH (H:Hp)(h:Heap):Prop:=∀a o,H a=some o->bN P w H h a o
end
section
variable {P:Program}{w:World}{H H':Hp}{h h':Heap}{a:Addr}{o:HO}
def bN.lt (x:bN P w H h a o):a<h.objs.size:=by
 cases o with
 |lst xs=>obtain⟨_,_,_,_,e⟩:=x;exact vX e
 |tup xs=>obtain⟨_,_,_,p⟩:=x;exact p.lt
 |dK aO ob=>exact vX (And.left x)
 |dT aO=>obtain⟨_,_,_,_,o,_,_,e,_⟩:=x;exact vX e
 |set S n=>obtain⟨o,_,_,_,e,_⟩:=x;exact vX e
 |ins C dx fs=>obtain⟨_,_,_,e,_⟩:=x;exact vX e
 |own y=>obtain⟨_,e⟩:=x;exact vX e
 |xd fs=>obtain⟨_,⟨_,_,_,e,_⟩,_⟩:=x;exact vX e
 |rng lo hi=>obtain⟨_,_,_,e⟩:=x;exact vX e
 |frz ob u=>obtain⟨e,_⟩:=x;exact vX e
 |tbl q=>obtain⟨_,e,_⟩:=x;exact vX e
 |met f y=>exact vX (show h.get? a=some _ from x)
 |ext φ=>obtain⟨_,⟨_,e⟩,_⟩:=x;exact vX e
theorem Paired.mapP {α T:Type}{F G:α->T->Prop}:∀ {M:List α}{O:List T},Paired F M O->(∀a b,F a b->G a b)->Paired G M O
 |_,_,.nil,_=>.nil
 |_,_,.cons r t,f=>.cons (f _ _ r) (Paired.mapP t f)
def bN.stay (x:bN P w H h a o)(k:∀b u,(b=a∨H b=some (.own a))->h.get? b=some u->h'.get? b=some u)
  (O:∀b,H b=some (.own a)->H' b=some (.own a)) (T:∀b xs,H b=some (.tup xs)->H' b=some (.tup xs)) (hf:∀b o u,H b=some (.frz o u)->H' b=some (.frz o u)):bN P w H' h' a o:=by
 induction o with
 |lst xs=>obtain⟨z,its,n,r,e⟩:=x;exact⟨z,its,n,r,k _ _ (.inl rfl) e⟩
 |tup xs=>obtain⟨z,its,r,ob,e,c⟩:=x;exact⟨z,its,r,ob,k _ _ (.inl rfl) e,c⟩
 |dK aO U=>obtain⟨g,z,y,vs,r,ob,es,G,e,c⟩:=x;exact⟨k _ _ (.inl rfl) g,z,y,vs,r,ob,es,G,k _ _ (.inl rfl) e,c⟩
 |dT aO=>
  obtain⟨z,y,xs,r,ob,es,G,e,c⟩:=x;exact⟨z,y,xs,Paired.mapP r λp q z=>⟨z.1,T _ _ z.2.1,z.2.2⟩,ob,es,G,k _ _ (.inl rfl) e,c⟩
 |set S n=>obtain⟨ob,es,G,t,e,c⟩:=x;exact⟨ob,es,G,t,k _ _ (.inl rfl) e,c⟩
 |ins C dx fs=>
  obtain⟨d,z,ne,e,mA,⟨od,es,G,e2,c⟩,r⟩:=x;exact⟨O _ d,z,ne,k _ _ (.inl rfl) e,mA,⟨od,es,G,k _ _ (.inr d) e2,c⟩,r⟩
 |own y=>obtain⟨ob,e⟩:=x;exact⟨ob,k _ _ (.inl rfl) e⟩
 |xd fs=>obtain⟨mA,⟨od,es,G,e,c⟩,r⟩:=x;exact⟨mA,⟨od,es,G,k _ _ (.inl rfl) e,c⟩,r⟩
 |rng lo hi=>obtain⟨t,u,v,e⟩:=x;exact⟨t,u,v,k _ _ (.inl rfl) e⟩
 |frz ob u ih=>obtain⟨e,q⟩:=x;exact⟨k _ _ (.inl rfl) e,ih q⟩
 |tbl q=>obtain⟨ps,e,t,c⟩:=x;exact⟨ps,k a _ (.inl rfl) e,t,λM cv z=>let ⟨d,oc,u,vs,tk,z1,z2,z3⟩:=c M cv z;⟨d,oc,u,vs,tk,z1,hf _ _ _ z2,z3⟩⟩
 |met f y=>
  have e:h.get? a=some (PySem.W.methodObj (.ref f) (.ref y)):=x;show h'.get? a=some (PySem.W.methodObj (.ref f) (.ref y));exact k a _ (.inl rfl) e
 |ext φ=>obtain⟨p,⟨o,e⟩,st⟩:=x;exact⟨st _ _ p λo q=>k _ _ (.inl rfl) q,⟨o,k _ _ (.inl rfl) e⟩,st⟩
def lH.lt (x:lH P w H h)(e:H a=some o):a<h.objs.size:=(x a o e).lt
def lH.fresh (x:lH P w H h)(e:h.objs.size<=a):H a=none:=by
 cases q:H a with
 |none=>rfl
 |some u=>exact absurd (vQ (x.lt q) e) (Nat.lt_irrefl _)
def lH.kept (x:lH P w H h)(k:∀b u,h.get? b=some u->h'.get? b=some u):lH P w H h':=λa o e=>
 (x a o e).stay (λb u _ q=>k b u q) (λ_ q=>q) (λ_ _ q=>q) λ_ _ _ q=>q
def lH.laid (x:lH P w H h)(k:∀b u,h.get? b=some u->h'.get? b=some u)(hp:h.objs.size<=a)(new:bN P w (upd H a o) h' a o):lH P w (upd H a o) h':=λb u e=>by
 have hn:=x.fresh hp;by_cases hb:b=a
 ·subst hb;rw[aC]at e;cases e;exact new
 ·rw[aG hb]at e;exact(x b u e).stay (λc v _ q=>k c v q) (λc q=>by rw[aG (bf q hn)];exact q) (λc xs q=>by rw[aG (bf q hn)];exact q) λc o xs q=>by rw[aG (bf q hn)];exact q
end
def Rd (H:Hp)(a:Addr)(u:HO):Prop:=H a=some u∨∃o,H a=some (.frz o u)
def Rd.of (h:H a=some u):Rd H a u:=.inl h
def Rd.ok (r:Rd H a u)(x:lH P w H h):bN P w H h a u:=by
 rcases r with r|⟨o,r⟩
 ·exact x a u r
 ·obtain⟨_,q⟩:=x a _ r;exact q
def NO:Option HO->Prop
 |some (.lst _)=>True
 |some (.dK _ _)=>True
 |some (.dT _)=>True
 |some (.set _ _)=>True
 |some (.ins _ _ _)=>True
 |some (.ext _)=>True
 |_=>False
section
variable {P:Program}{w:World}{H:Hp}{h h':Heap}{x e:Addr}{o':HO}
def lH.write (ok:lH P w H h)(O:NO (H x))(he:e=x∨H e=some (.own x))(k:∀b u,b≠e->h.get? b=some u->h'.get? b=some u)(U:∃u,h'.get? e=some u)
  (new:bN P w (upd H x o') h' x o'):lH P w (upd H x o') h':=λb u q=>by
 have M:∀c y,H c=some (.own y)->c≠x:=λc y r z=>by subst z;rw[r]at O;exact O
 have T:∀c xs,H c=some (.tup xs)->c≠x:=λc xs r z=>by subst z;rw[r]at O;exact O
 by_cases hb:b=x
 ·subst hb;rw[aC]at q;cases q;exact new
 ·rw[aG hb]at q;by_cases G:b=e
  ·have q':H b=some (.own x):=by
    rcases he with z|z
    ·exact absurd (G.trans z) hb
    ·rw[G];exact z
   rw[q]at q';cases q';obtain⟨v,hv⟩:=U;exact⟨v,by rw[G];exact hv⟩
  ·refine(ok b u q).stay (λc v hc r=>k c v ?_ r) (λc r=>by rw[aG (M c b r)];exact r) (λc xs r=>by rw[aG (T c xs r)];exact r) λc o xs r=>by rw[aG (λz=>by subst z;rw[r]at O;exact O)];exact r
   rcases hc with rfl|hc
   ·exact G
   ·rintro rfl;rcases he with z|z
    ·exact M c b hc z
    ·rw[hc]at z;cases z;exact hb rfl
end
structure Un (fs ex:List Addr)(H H':Hp)(h h':Heap):Prop where
 keep:∀b o,h.get? b=some o->H b=none->b∉fs->b∉ex->h'.get? b=some o
 slot:∀b o,h.get? b=some o->H b=none->b∈fs->b∉ex->∃sl,h'.get? b=some { o with slots:=sl }
 free:∀b o,h.get? b=some o->H b=none->b∉ex->H' b=none
 there:∀b o,h.get? b=some o->b∉ex->∃o',h'.get? b=some o'
 tups:∀b xs,H b=some (.tup xs)->H' b=some (.tup xs)
 frzs:∀b o u,H b=some (.frz o u)->H' b=some (.frz o u)
 tbls:∀b q,H b=some (.tbl q)->H' b=some (.tbl q)
section
variable {fs VL ex XB:List Addr}{H H1 H2:Hp}{h h1 h2 h':Heap}{a x e:Addr}{o:HO}
def Un.any (u:Un fs ex H H1 h h1)(q:h.get? b=some ob)(n:H b=none)(hx:b∉ex):∃sl,h1.get? b=some { ob with slots:=sl }:=by
 by_cases hb:b∈fs
 ·exact u.slot b ob q n hb hx
 ·exact⟨ob.slots,u.keep b ob q n hb hx⟩
def Un.trans (a:Un fs ex H H1 h h1)(b:Un fs ex H1 H2 h1 h2):Un fs ex H H2 h h2 where
 keep:=λc ob q n hc hx=>b.keep c ob (a.keep c ob q n hc hx) (a.free c ob q n hx) hc hx
 slot:=λc ob q n hc hx=>by
  obtain⟨sl,G⟩:=a.slot c ob q n hc hx;obtain⟨M,e2⟩:=b.slot c _ G (a.free c ob q n hx) hc hx;exact⟨M,e2⟩
 free:=λc ob q n hx=>by
  obtain⟨o',G⟩:=a.there c ob q hx;exact b.free c o' G (a.free c ob q n hx) hx
 there:=λc ob q hx=>by
  obtain⟨o',G⟩:=a.there c ob q hx;exact b.there c o' G hx
 tups:=λc xs q=>b.tups c xs (a.tups c xs q)
 frzs:=λc ob xs q=>b.frzs c ob xs (a.frzs c ob xs q)
 tbls:=λc ps q=>b.tbls c ps (a.tbls c ps q)
def Un.kept (k:∀b u,h.get? b=some u->h'.get? b=some u):Un fs ex H H h h' :=
 ⟨λb ob q _ _ _=>k b ob q,λb ob q _ _ _=>⟨ob.slots,k b ob q⟩,λ_ _ _ n _=>n,λb ob q _=>⟨ob,k b ob q⟩,λ_ _ q=>q,λ_ _ _ q=>q,λ_ _ q=>q⟩
def Un.refl:Un fs ex H H h h:=Un.kept λ_ _ q=>q
def Un.laid (k:∀b u,h.get? b=some u->h'.get? b=some u)(hp:h.objs.size<=a)(hn:H a=none):Un fs ex H (upd H a o) h h' where
 keep:=λb u q _ _ _=>k b u q
 slot:=λb u q _ _ _=>⟨u.slots,k b u q⟩
 free:=λb u q n _=>by rw[aG (vS (vQ (vX q) hp))];exact n
 there:=λb u q _=>⟨u,k b u q⟩
 tups:=λb xs q=>by rw[aG (bf q hn)];exact q
 frzs:=λb u xs q=>by rw[aG (bf q hn)];exact q
 tbls:=λb ps q=>by rw[aG (bf q hn)];exact q
def Un.write (M:NO (H x))(he:e=x∨H e=some (.own x))(k:∀b u,b≠e->h.get? b=some u->h'.get? b=some u)(O:∃u,h'.get? e=some u):Un fs ex H (upd H x o) h h':=by
 have hx:∀b,H b=none->b≠x:=λb n z=>by subst z;rw[n]at M;exact M
 have hb:∀b,H b=none->b≠e:=λb n z=>by
  subst z;rcases he with r|r
  ·exact hx b n r
  ·rw[n]at r;cases r
 have hm:∀b u,H b=some u->¬NO (some u)->b≠x:=λb u q nm z=>by subst z;rw[q]at M;exact nm M
 refine⟨λb u q n _ _=>k b u (hb b n) q,λb u q n _ _=>⟨u.slots,k b u (hb b n) q⟩,λb u q n _=>by rw[aG (hx b n)];exact n,λb u q _=>?_,
  λb xs q=>by rw[aG (hm b _ q λz=>z)];exact q,λb u xs q=>by rw[aG (hm b _ q λz=>z)];exact q,λb ps q=>by rw[aG (hm b _ q λz=>z)];exact q⟩
 by_cases G:b=e
 ·subst G;exact O
 ·exact⟨u,k b u G q⟩
end
noncomputable def Qm (h:Heap)(H:Hp):List Addr:=(List.range h.objs.size).filter λa=>(H a).isSome
def yn (h:Heap)(H:Hp):Heap:=PySem.W.hideAll h (Qm h H)
def Dj (h:Heap)(H:Hp):(yn h H).objs.size=h.objs.size:=PySem.W.hideAll_size _ _
def qt (e:h.get? b=some o)(n:H b=none):(yn h H).get? b=some o :=
 PySem.W.hideAll_get _ e λhm=>by
  have q:(H b).isSome=true:=(vN hm).2;rw[n]at q;simp at q
def HH (e:(yn h H).get? b=some o):h.get? b=some o/\H b=none:=by
 have G:h.get? b=some o:=PySem.W.of_hideAll (Qm h H) e;refine⟨G,?_⟩;cases q:H b with
 |none=>rfl
 |some x=>
  have hm:b∈Qm h H:=mem_filter.mpr ⟨mem_range.mpr (vX G),by simp[q]⟩;have z:(yn h H).get? b=none:=PySem.W.hideAll_none (Qm h H) hm;rw[z]at e;cases e
noncomputable def HI (g h:Heap)(L:Addr):AO:=(List.range h.objs.size).filterMap λa=>if a=L∨(g.get? a).isSome=true then none else (h.get? a).map λo=>(a,o)
def ay (g h:Heap)(L d:Addr):AO:=(HI g h L).filter λp=>decide (p.1≠d)
structure Mod (K:Frag)(mg:Str->Option Value)(base:Heap):Prop where
 kin:K.In base
 glob:base.Ns mainGlobals mg
 blt:∃mb,base.Ns builtinsNs mb/\∀x:Str,x ≠ "__name__"->mb x=bootBuiltins x
 nolimit:base.NoLimit
 bmain:∃bm ob,mg "__builtins__" = some (.ref bm)/\bm≠builtinsNs/\base.get? bm=some ob/\ob.cls=.type "module"/\ob.dict=some builtinsNs/\ob.data=.plain
structure Cx where
 prog:Program
 w:World
 K:Frag
 mg:Str->Option Value
 base:Heap
 A:Around
 N:List Str
 s₀:Shared
 H₀:Hp
 env:Env
 outer:List Env
 stack:List Env
 ex:List Addr
 fn:Str->Bool
 calm:Bool
 pn:List (Addr×Obj)
 xe:Value->Shared->Prop
noncomputable def Ey (l:List Env):List Addr:=l.filterMap (·.frame)
abbrev Cx.fs (X:Cx):List Addr:=Ey X.outer
def Nk (sc:Scope)(x:Str):Prop:=sc.names.lookup x=some .local∨sc.names.lookup x=some .cell∨sc.names.lookup x=some .free
def Hu (sc:Scope)(x:Str):Prop:=sc.names.lookup x=some .local∨sc.names.lookup x=some .cell
def QM (env:Env)(h:Heap)(m:SV)(x:Str)(u:Value):Prop :=
 (env.kindOf x=some .local/\m x=some u)∨((env.kindOf x=some .cell∨env.kindOf x=some .free)/\∃c,env.cells.lookup x=some c/\h.IsCell c (some u))
abbrev wq {α:Type}(X:Cx):Sem α->(α->Shared->Prop)->(Value->Shared->Prop)->Shared->Prop:=wpAny (model X.prog X.w) X.A
structure Cx.Ok (X:Cx):Prop where
 mod:Mod X.K X.mg X.base
 kind:X.env.scope.kind=.function
 glob:X.env.globals=mainGlobals
 blt:X.env.builtins=builtinsNs
 above:X.s₀.heap.objs.size<=X.env.locals
 inj:∀x y c,X.env.cells.lookup x=some c->X.env.cells.lookup y=some c->x=y
 has:∀x,(X.env.kindOf x=some .cell∨X.env.kindOf x=some .free)->∃c,X.env.cells.lookup x=some c
 cab:∀x c,X.fn x=true->X.env.cells.lookup x=some c->X.s₀.heap.objs.size<=c
 hd:X.calm=true->X.A.handled=none
 frames:X.A.frames=some X.stack
 stk:X.stack=X.outer∨(X.stack=X.env::X.outer/\X.env.frame=some X.env.locals)
 exf:∀b∈X.ex,b≠X.env.locals/\∀x c,X.env.cells.lookup x=some c->c≠b
 bs:∀b o,X.base.get? b=some o->X.s₀.heap.get? b=some o/\X.H₀ b=none
 bsz:X.base.objs.size<=X.s₀.heap.objs.size
 noex:∀b o,X.base.get? b=some o->b∉X.ex
 exfs:∀b∈X.ex,b∉X.fs
 funs:X.s₀.heap.FunFrames X.base X.outer
 frf:∀b∈X.fs,X.H₀ b=none
structure Inv (X:Cx)(ah:List (Addr×Obj))(σ:List (Option V))(H:Hp)(s:Shared):Prop where
 ok:X.Ok
 os:s.os=X.s₀.os
 bare:AllBare s.gens
 base:Un X.fs X.ex X.H₀ H X.s₀.heap s.heap
 loc:∃m,s.heap.Ns X.env.locals m/\∀(i:Nat)(x:Str)(v:V),X.N[i]? = some x->σ[i]? = some (some v)->Nk X.env.scope x->∃u,bd v u/\QM X.env s.heap m x u
 cell:∀x c,X.env.cells.lookup x=some c->∃v,s.heap.IsCell c v
 free:H X.env.locals=none
 freeC:∀x c,X.env.cells.lookup x=some c->H c=none
 pin:∀p∈X.pn++ah,s.heap.get? p.1=some p.2/\H p.1=none/\p.1≠X.env.locals/\p.1∉X.fs/\∀v,p.2.data≠.cell v
 hok:lH X.prog X.w H s.heap
 len:σ.length=X.N.length
section
variable {X:Cx}{ah:AO}{σ:List (Option V)}{H H':Hp}{s:Shared}{h':Heap}
def Cx.Ok.nofr (ok:X.Ok)(e:X.base.get? b=some o):b∉X.fs:=λhb=>by
 have:=(ok.funs.mem hb).1;rw[e]at this;cases this
def Inv.bs (I:Inv X ah σ H s):∀b o,X.base.get? b=some o->s.heap.get? b=some o/\H b=none:=λb o e=>
 ⟨I.base.keep b o (I.ok.bs b o e).1 (I.ok.bs b o e).2 (I.ok.nofr e) (I.ok.noex b o e),I.base.free b o (I.ok.bs b o e).1 (I.ok.bs b o e).2 (I.ok.noex b o e)⟩
def Inv.bk (I:Inv X ah σ H s):∀b o,X.base.get? b=some o->s.heap.get? b=some o:=λb o e=>(I.bs b o e).1
def Inv.mod (I:Inv X ah σ H s):Mod X.K X.mg X.base:=I.ok.mod
def Inv.kIn (I:Inv X ah σ H s):X.K.In s.heap:=I.ok.mod.kin.keeps I.bk
def Inv.nolimit (I:Inv X ah σ H s):s.heap.NoLimit:=I.ok.mod.nolimit.keeps I.bk
def Inv.lt (I:Inv X ah σ H s):X.env.locals<s.heap.objs.size:=let ⟨_,hn,_⟩:=I.loc;hn.lt
def Inv.sz (I:Inv X ah σ H s):X.s₀.heap.objs.size<=s.heap.objs.size:=vR I.ok.above (le_of_lt I.lt)
def Inv.nofs (I:Inv X ah σ H s)(h:s.heap.objs.size<=a):a∉X.fs:=λhb=>by
 obtain⟨_,o,G,_⟩:=I.ok.funs.mem hb;exact absurd (vQ (vX G) (vR I.sz h)) (Nat.lt_irrefl _)
def Inv.cne (I:Inv X ah σ H s):∀x c,X.env.cells.lookup x=some c->c≠X.env.locals:=λx c e z=>by
 obtain⟨v,o,O,hd⟩:=I.cell x c e;obtain⟨m,⟨o',es,T,G,M,_⟩,_⟩:=I.loc;rw[z,G]at O;cases O;rw[M]at hd;cases hd
def Inv.funs (I:Inv X ah σ H s):s.heap.FunFrames X.base X.outer:=by
 have all:∀(l:List Env),(∀b∈Ey l,b∈X.fs)->X.s₀.heap.FunFrames X.base l->s.heap.FunFrames X.base l:=by
  intro l;induction l with
  |nil=>intro _ _;trivial
  |cons env r M=>
   intro hs hl;obtain⟨hk,⟨L,o,hf,hn,O,hd⟩,T⟩:=hl;have G:L∈X.fs:=hs L (by unfold Ey;rw[List.filterMap_cons,hf];exact mX);obtain⟨sl,e⟩:=I.base.slot L o O (I.ok.frf L G) G λz=>I.ok.exfs L z G;exact⟨hk,⟨L,_,hf,hn,e,hd⟩,M (λb hb=>hs b (by unfold Ey;rw[List.filterMap_cons,hf];exact mZ _ hb)) T⟩
 exact all X.outer (λ_ hb=>hb) I.ok.funs
def Inv.stack (I:Inv X ah σ H s):s.heap.FunFrames X.base X.stack:=by
 rcases I.ok.stk with e|⟨e,hf⟩
 ·rw[e];exact I.funs
 ·rw[e];obtain⟨m,hn,_⟩:=I.loc;refine .cons (by rw[I.ok.kind];decide) hf hn ?_ I.funs;exact Heap.get?_none_of_le (vR I.ok.bsz I.ok.above)
def Inv.stkSub (I:Inv X ah σ H s):∀b∈Ey X.stack,b∈X.env.locals::X.fs:=λb hb=>by
 rcases I.ok.stk with e|⟨e,hf⟩
 ·rw[e]at hb;exact mZ _ hb
 ·rw[e]at hb;unfold Ey at hb;rw[List.filterMap_cons,hf]at hb;exact hb
def Inv.stkFree (I:Inv X ah σ H s):∀b∈Ey X.stack,H b=none:=λb hb=>by
 rcases vP (I.stkSub b hb)with e|hb
 ·rw[e];exact I.free
 ·obtain⟨_,o,G,_⟩:=I.ok.funs.mem hb;exact I.base.free b o G (I.ok.frf b hb) λz=>I.ok.exfs b z hb
def Inv.step {g':Array GenState}{t':Nat}{d':Drawn}{ch:List Addr}(I:Inv X ah σ H s)
  (G:∀b∈ch,(b∈X.ex∨X.s₀.heap.objs.size<=b)/\b≠X.env.locals/\(∀x c,X.env.cells.lookup x=some c->c≠b)/\∀p∈X.pn++ah,p.1≠b)
  (keep:∀b o,b≠X.env.locals->b∉X.fs->b∉ch->s.heap.get? b=some o->H b=none->h'.get? b=some o)
  (slot:∀b o,b≠X.env.locals->b∈X.fs->b∉ch->s.heap.get? b=some o->H b=none->∃sl,h'.get? b=some { o with slots:=sl }) (free:∀b o,b∉ch->s.heap.get? b=some o->H b=none->H' b=none)
  (there:∀b o,b∉ch->s.heap.get? b=some o->∃o',h'.get? b=some o')
  (tups:∀b xs,H b=some (.tup xs)->H' b=some (.tup xs)) (frzs:∀b o u,H b=some (.frz o u)->H' b=some (.frz o u)) (tbls:∀b q,H b=some (.tbl q)->H' b=some (.tbl q))
  (ns:∀m,s.heap.Ns X.env.locals m->h'.Ns X.env.locals m) (hok:lH X.prog X.w H' h') (hg:AllBare g'):
  Inv X ah σ H' { s with heap:=h',gens:=g',drawn:=d',toks:=t' }:=by
 have TB:∀b o,X.s₀.heap.get? b=some o->b≠X.env.locals:=λb o e=>vS (vQ (vX e) I.ok.above);have T:∀b o,X.s₀.heap.get? b=some o->b∉X.ex->b∉ch:=λb o e hx hb=>by
  rcases (G b hb).1 with z|z
  ·exact hx z
  ·exact absurd (vQ (vX e) z) (Nat.lt_irrefl _)
 have M:∀x c,X.env.cells.lookup x=some c->∀v,s.heap.IsCell c v->h'.IsCell c v:=λx c e v ⟨o,ho,hd⟩=>by
  have O:c∉ch:=λz=>(G c z).2.2.1 x c e rfl;by_cases hc:c∈X.fs
  ·obtain⟨sl,q⟩:=slot c o (I.cne x c e) hc O ho (I.freeC x c e);exact⟨_,q,hd⟩
  ·exact⟨o,keep c o (I.cne x c e) hc O ho (I.freeC x c e),hd⟩
 refine⟨I.ok,I.os,hg,⟨λb o e n hb hx=>?_,λb o e n hb hx=>?_,λb o e n hx=>?_,λb o e hx=>?_,λb xs e=>tups b xs (I.base.tups b xs e),λb o xs e=>frzs b o xs (I.base.frzs b o xs e),λb ps e=>?_⟩,?_,λx c e=>?_,?_,λx c e=>?_,λp hp=>?_,hok,I.len⟩
 ·exact keep b o (TB b o e) hb (T b o e hx) (I.base.keep b o e n hb hx) (I.base.free b o e n hx)
 ·obtain⟨sl,U⟩:=I.base.slot b o e n hb hx;obtain⟨VM,e2⟩:=slot b _ (TB b o e) hb (T b o e hx) U (I.base.free b o e n hx);exact⟨VM,e2⟩
 ·obtain⟨o',U⟩:=I.base.there b o e hx;exact free b o' (T b o e hx) U (I.base.free b o e n hx)
 ·obtain⟨o',U⟩:=I.base.there b o e hx;exact there b o' (T b o e hx) U
 ·exact tbls b _ (I.base.tbls b ps e)
 ·obtain⟨m,hn,hl⟩:=I.loc;refine⟨m,ns m hn,λi x v U e2 e3=>?_⟩;obtain⟨u,r,l⟩:=hl i x v U e2 e3;refine⟨u,r,?_⟩;rcases l with l|⟨k,c,e,z⟩
  ·exact .inl l
  ·exact .inr ⟨k,c,e,M x c e _ z⟩
 ·obtain⟨v,z⟩:=I.cell x c e;exact⟨v,M x c e v z⟩
 ·obtain⟨m,⟨o,_,_,ho,_⟩,_⟩:=I.loc;exact free _ o (λz=>(G _ z).2.1 rfl) ho I.free
 ·obtain⟨v,o,ho,hd⟩:=I.cell x c e;exact free c o (λz=>(G c z).2.2.1 x c e rfl) ho (I.freeC x c e)
 ·obtain⟨e,n,ne,nf,d⟩:=I.pin p hp;have O:p.1∉ch:=λz=>(G p.1 z).2.2.2 p hp rfl;exact⟨keep p.1 p.2 ne nf O e n,free p.1 p.2 O e n,ne,nf,d⟩
def Inv.un {t':Nat}(I:Inv X ah σ H s)(u:Un X.fs [] H H' s.heap h')(hok:lH X.prog X.w H' h'):Inv X ah σ H' { s with heap:=h',toks:=t' }:=by
 obtain⟨m,⟨o,es,ep,T,r⟩,_⟩:=id I.loc;obtain⟨sl,U⟩:=u.any T I.free (by simp);exact I.step (g':=s.gens) (d':=s.drawn) (ch:=[]) (λ_ z=>nomatch z) (λb o _ hb _ e n=>u.keep b o e n hb (by simp)) (λb o _ hb _ e n=>u.slot b o e n hb (by simp)) (λb o _ e n=>u.free b o e n (by simp)) (λb o _ e=>u.there b o e (by simp)) u.tups u.frzs u.tbls (λm' hm=>by
  obtain⟨o',M,O,G,r'⟩:=hm;rw[T]at G;cases G;exact⟨_,M,O,U,r'⟩) hok I.bare
def Inv.call {g':Array GenState}{t':Nat}{d':Drawn}{ch:List Addr}(I:Inv X ah σ H s)(u:Un (Ey X.stack) ch H H' s.heap h')(hok:lH X.prog X.w H' h')(hg:AllBare g')
  (G:∀b∈ch,(b∈X.ex∨X.s₀.heap.objs.size<=b)/\b≠X.env.locals/\(∀x c,X.env.cells.lookup x=some c->c≠b)/\∀p∈X.pn++ah,p.1≠b):
  Inv X ah σ H' { s with heap:=h',gens:=g',drawn:=d',toks:=t' }:=by
 obtain⟨m,⟨o,es,ep,ho,r⟩,_⟩:=id I.loc;obtain⟨sl,O⟩:=u.any ho I.free λz=>(G _ z).2.1 rfl;exact I.step (ch:=ch) G (λb o O hb hc e n=>u.keep b o e n (λz=>(vP (I.stkSub b z)).elim O hb) hc) (λb o _ _ hc e n=>u.any e n hc) (λb o hc e n=>u.free b o e n hc) (λb o hc e=>u.there b o e hc) u.tups u.frzs u.tbls (λm' hm=>by
  obtain⟨o',T,U,M,r'⟩:=hm;rw[ho]at M;cases M;exact⟨_,T,U,O,r'⟩) hok hg
def Inv.turned {t':Nat}{it:Addr}(I:Inv X ah σ H s)(k:∀b o,b≠it->s.heap.get? b=some o->h'.get? b=some o)(hn:H it=none)(M:it≠X.env.locals)
  (h1:it∈X.ex∨X.s₀.heap.objs.size<=it) (h2:∀x c,X.env.cells.lookup x=some c->c≠it) (h3:∀p∈X.pn++ah,p.1≠it):Inv X ah σ H { s with heap:=h',toks:=t' }:=by
 have G:∀b u,H b=some u->b≠it:=λb u e z=>by rw[z,hn]at e;cases e
 refine I.step (g':=s.gens) (d':=s.drawn) (ch:=[it]) (λb hb=>?_) (λb o _ _ hc e _=>k b o (λz=>hc (by simp[z])) e) (λb o _ _ hc e _=>⟨o.slots,k b o (λz=>hc (by simp[z])) e⟩) (λ_ _ _ _ n=>n)
  (λb o hc e=>⟨o,k b o (λz=>hc (by simp[z])) e⟩) (λ_ _ e=>e) (λ_ _ _ e=>e) (λ_ _ e=>e) (λm hm=>?_) (λb u e=>?_) I.bare
 ·have e:b=it:=by simpa using hb
  subst e;exact⟨h1,M,h2,h3⟩
 ·obtain⟨o,es,O,T,r⟩:=hm;exact⟨o,es,O,k _ o (Ne.symm M) T,r⟩
 ·refine(I.hok b u e).stay (λc v hc q=>k c v ?_ q) (λ_ q=>q) (λ_ _ q=>q) λ_ _ _ q=>q;rcases hc with z|z
  ·rw[z];exact G b u e
  ·exact G c _ z
def Inv.tok (I:Inv X ah σ H s)(t:Nat):Inv X ah σ H { s with toks:=t }:=I.un (h':=s.heap) (t':=t) Un.refl I.hok
def Inv.kept (I:Inv X ah σ H s)(k:∀b u,s.heap.get? b=some u->h'.get? b=some u):Inv X ah σ H { s with heap:=h',toks:=t' }:=I.un (Un.kept k) (I.hok.kept k)
def Inv.laid (I:Inv X ah σ H s)(k:∀b u,s.heap.get? b=some u->h'.get? b=some u)(hp:s.heap.objs.size<=a)(new:bN X.prog X.w (upd H a o) h' a o):
  Inv X ah σ (upd H a o) { s with heap:=h',toks:=t' }:=I.un (Un.laid k hp (I.hok.fresh hp)) (I.hok.laid k hp new)
def Inv.write (I:Inv X ah σ H s)(M:NO (H x))(he:e=x∨H e=some (.own x))(k:∀b u,b≠e->s.heap.get? b=some u->h'.get? b=some u)(G:∃u,h'.get? e=some u)
  (new:bN X.prog X.w (upd H x o) h' x o):Inv X ah σ (upd H x o) { s with heap:=h',toks:=t' }:=I.un (Un.write M he k G) (I.hok.write M he k G new)
def Inv.pins_of (I:Inv X ah σ H s)(h:∀p∈pins',s.heap.get? p.1=some p.2/\H p.1=none/\p.1≠X.env.locals/\p.1∉X.fs/\∀v,p.2.data≠.cell v):Inv X pins' σ H s :=
 ⟨I.ok,I.os,I.bare,I.base,I.loc,I.cell,I.free,I.freeC,λp hp=>(mem_append.mp hp).elim (λz=>I.pin p (mem_append_left _ z)) (h p),I.hok,I.len⟩
def yo {N:LS}(G:N.Nodup){i j:Nat}{x:Str}(a:N[i]? = some x)(b:N[j]? = some x):i=j:=by
 obtain⟨h1,M⟩:=vV a;obtain⟨h2,e2⟩:=vV b;exact(List.getElem_inj G).mp (M.trans e2.symm)
def ut {M:Model}{A:Around}{E:QV}{i:Nat}{x:Str}{v:V}{u:Value}{Q:Unit->Shared->Prop}(I:Inv X ah σ H s)(hN:X.N.Nodup)(hi:X.N[i]? = some x)(hx:Hu X.env.scope x)(r:bd v u)
  (h:∀s',Inv X ah (σ.set i (some v)) H s'->(∃a,Heap.SameBut a s.heap s'.heap/\(a=X.env.locals∨X.env.cells.lookup x=some a))->Q () s') (hf:X.fn x=true∨X.env.scope.names.lookup x=some .local:=by first|exact .inl rfl|exact .inr rfl|assumption):wpAny M A (storeName X.env x u) Q E s:=by
 obtain⟨m,hn,hl⟩:=id I.loc;have RK:(X.env.scope.kind == .class || (X.env.scope.kind == .module && X.env.locals != X.env.globals))=false:=by rw[I.ok.kind];rfl
 have U:i<σ.length:=by rw[I.len];exact(vV hi).1
 have cne:=I.cne;have G:∀ {a:Addr}{h':Heap},(∃o,s.heap.get? a=some o/\H a=none)->Heap.SameBut a s.heap h'->lH X.prog X.w H h':=λ{a h'} ha hs b ob e=>by
  obtain⟨_,_,T⟩:=ha;refine(I.hok b ob e).stay (λc w' hc q=>(hs.2 c ?_).trans q) (λ_ q=>q) (λ_ _ q=>q) λ_ _ _ q=>q;rintro rfl;rcases hc with rfl|hc
  ·rw[T]at e;cases e
  ·rw[T]at hc;cases hc
 rcases hx with hk|hk
 ·refine wpAny_storeName_local hk hn (λh' RL hs=>?_) RK;obtain⟨oL,_,_,Py,_⟩:=id hn;refine h _ ⟨I.ok,I.os,I.bare,⟨λb o e n hb hx=>?_,λb o e n hb hx=>?_,I.base.free,λb o e hx=>?_,I.base.tups,I.base.frzs,I.base.tbls⟩,⟨_,RL,λj y v' O e2 e3=>?_⟩,λy c e=>?_,I.free,I.freeC,λp hp=>?_,G ⟨oL,Py,I.free⟩ hs,by simpa using I.len⟩ ⟨_,hs,.inl rfl⟩
  ·exact(hs.2 b (vS (vQ (vX e) I.ok.above))).trans (I.base.keep b o e n hb hx)
  ·obtain⟨sl,O⟩:=I.base.slot b o e n hb hx;exact⟨sl,(hs.2 b (vS (vQ (vX e) I.ok.above))).trans O⟩
  ·obtain⟨o',O⟩:=I.base.there b o e hx;exact⟨o',(hs.2 b (vS (vQ (vX e) I.ok.above))).trans O⟩
  ·by_cases hj:j=i
   ·subst hj;rw[hi]at O;cases O;rw[List.getElem?_set_self U]at e2;cases e2
    exact⟨u,r,.inl ⟨hk,by simp⟩⟩
   ·rw[vB (Ne.symm hj)]at e2;obtain⟨u',r',q⟩:=hl j y v' O e2 e3;refine⟨u',r',?_⟩;rcases q with⟨k,e⟩|⟨k,c,e,z⟩
    ·refine .inl ⟨k,?_⟩;have:y≠x:=λe=>hj (yo hN O (e ▸ hi));simp[this,e]
    ·exact .inr ⟨k,c,e,z.sameBut hs (cne y c e)⟩
  ·obtain⟨w',z⟩:=I.cell y c e;exact⟨w',z.sameBut hs (cne y c e)⟩
  ·obtain⟨e,n,ne,nf,d⟩:=I.pin p hp;exact⟨(hs.2 p.1 ne).trans e,n,ne,nf,d⟩
 ·have RM:X.fn x=true:=by
   rcases hf with z|z
   ·exact z
   ·rw[z]at hk;cases hk
  obtain⟨c,hc⟩:=I.ok.has x (.inl hk);obtain⟨w',z⟩:=I.cell x c hc;refine wpAny_storeName_cell I.ok.kind hk hc z (λh' MO hs=>?_);obtain⟨oc,Ke,RN⟩:=id z;refine h { s with heap:=h' } ⟨I.ok,I.os,I.bare,⟨λb o e n hb hx=>?_,λb o e n hb hx=>?_,I.base.free,λb o e hx=>?_,I.base.tups,I.base.frzs,I.base.tbls⟩,⟨m,hn.sameBut hs (Ne.symm (cne x c hc)),λj y v' O e2 e3=>?_⟩,λy c' e=>?_,I.free,I.freeC,λp hp=>?_,G ⟨oc,Ke,I.freeC x c hc⟩ hs,by simpa using I.len⟩ ⟨c,hs,.inr hc⟩
  ·exact(hs.2 b (vS (vQ (vX e) (I.ok.cab x c RM hc)))).trans (I.base.keep b o e n hb hx)
  ·obtain⟨sl,O⟩:=I.base.slot b o e n hb hx;exact⟨sl,(hs.2 b (vS (vQ (vX e) (I.ok.cab x c RM hc)))).trans O⟩
  ·obtain⟨o',O⟩:=I.base.there b o e hx;exact⟨o',(hs.2 b (vS (vQ (vX e) (I.ok.cab x c RM hc)))).trans O⟩
  ·by_cases hj:j=i
   ·subst hj;rw[hi]at O;cases O;rw[List.getElem?_set_self U]at e2;cases e2
    exact⟨u,r,.inr ⟨.inl hk,c,hc,MO⟩⟩
   ·rw[vB (Ne.symm hj)]at e2;obtain⟨u',r',q⟩:=hl j y v' O e2 e3;refine⟨u',r',?_⟩;rcases q with q|⟨k,c',e,z'⟩
    ·exact .inl q
    ·refine .inr ⟨k,c',e,z'.sameBut hs ?_⟩;rintro rfl;exact hj (yo hN O (I.ok.inj _ _ _ e hc ▸ hi))
  ·by_cases hcc:c'=c
   ·subst hcc;exact⟨_,MO⟩
   ·obtain⟨w2,z2⟩:=I.cell y c' e;exact⟨w2,z2.sameBut hs hcc⟩
  ·obtain⟨e,n,ne,nf,d⟩:=I.pin p hp;refine⟨(hs.2 p.1 ?_).trans e,n,ne,nf,d⟩;intro q;rw[q,Ke]at e;have q':oc=p.2:=vK e;exact d w' (by rw[←q'];exact RN)
def yp {M:Model}{A:Around}{E:QV}{i:Nat}{x:Str}{v:V}{u:Value}{Q:Unit->Shared->Prop}(I:Inv X ah σ H s)(G:X.N.Nodup)(hi:X.N[i]? = some x)(hx:Hu X.env.scope x)(r:bd v u)
  (h:∀s',Inv X ah (σ.set i (some v)) H s'->Q () s') (hf:X.fn x=true∨X.env.scope.names.lookup x=some .local:=by first|exact .inl rfl|exact .inr rfl|assumption):wpAny M A (storeName X.env x u) Q E s :=
 ut I G hi hx r (λs' O _=>h s' O) hf
def Inv.call' (I:Inv X ah σ H s)(M:s'.os=s.os)(u:Un (Ey X.stack) ch H H' s.heap s'.heap)(hok:lH X.prog X.w H' s'.heap)(O:AllBare s'.gens)
  (G:∀b∈ch,(b∈X.ex∨X.s₀.heap.objs.size<=b)/\b≠X.env.locals/\(∀x c,X.env.cells.lookup x=some c->c≠b)/\∀p∈X.pn++ah,p.1≠b):Inv X ah σ H' s':=by
 obtain⟨h',g',d',t',o'⟩:=s';have e:o'=s.os:=M;subst e;exact I.call (g':=g') (t':=t') (d':=d') u hok O G
end
abbrev XK:=Value->Option Addr->Hp->Prop
abbrev St:=List (Option V)
abbrev VK:=V->Hp->Prop
abbrev TE:=St->Hp->VK->Prop
abbrev TT:=St->Hp->(Bool->Hp->Prop)->Prop
abbrev TA:=St->Hp->(List V->Hp->Prop)->Prop
structure Ends where
 nx:St->Hp->Prop
 rt:VK
 bk:St->Hp->Prop:=λ_ _=>False
 ct:St->Hp->Prop:=λ_ _=>False
abbrev TS:=Ends->St->Hp->Prop
def EP (X:Cx)(ah:AO)(σ:St)(Q:VK)(u:Value)(s':Shared):Prop:=∃v H',Inv X ah σ H' s'/\bd v u/\Q v H'
def TP (X:Cx)(ah:AO)(σ:St)(Q:Bool->Hp->Prop)(b:Bool)(s':Shared):Prop:=∃H',Inv X ah σ H' s'/\Q b H'
def AP (X:Cx)(ah:AO)(σ:St)(Q:List V->Hp->Prop)(us:LU)(s':Shared):Prop:=∃vs H',Inv X ah σ H' s'/\bu vs us/\Q vs H'
def SP (X:Cx)(ah:AO)(D:Ends)(f:Flow)(s':Shared):Prop :=
 match f with
 |.next=>∃G H',Inv X ah G H' s'/\D.nx G H'
 |.brk=>∃G H',Inv X ah G H' s'/\D.bk G H'
 |.cont=>∃G H',Inv X ah G H' s'/\D.ct G H'
 |.ret u=>∃v G H',Inv X ah G H' s'/\bd v u/\D.rt v H'
def PE (X:Cx)(e:Expr)(t:TE):Prop :=
 ∀(ah:AO)(s:Shared)(σ:St)(H:Hp)(Q:VK),Inv X ah σ H s->t σ H Q->wq X (eval e X.env) (EP X ah σ Q) X.xe s
def PT (X:Cx)(e:Expr)(t:TT):Prop :=
 ∀(ah:AO)(s:Shared)(σ:St)(H:Hp)(Q:Bool->Hp->Prop),Inv X ah σ H s->t σ H Q->wq X (isTrue e X.env (eval e X.env)) (TP X ah σ Q) X.xe s
def PW (X:Cx)(e:Expr)(t:TT):Prop :=
 ∀(G:Sem Value)(ah:AO)(s:Shared)(σ:St)(H:Hp)(Q:Bool->Hp->Prop),Inv X ah σ H s->t σ H Q->wq X (isTrue e X.env G) (TP X ah σ Q) X.xe s
def PW.pt (h:PW X e t):PT X e t:=h _
def PA (X:Cx)(es:QD)(t:TA):Prop :=
 ∀(G:Pos)(ah:AO)(s:Shared)(σ:St)(H:Hp)(Q:List V->Hp->Prop),Inv X ah σ H s->t σ H Q->wq X (spliced (backTo G (starEach es X.env))) (AP X ah σ Q) X.xe s
def PS (X:Cx)(st:Stmt)(t:TS):Prop :=
 ∀(ah:AO)(s:Shared)(σ:St)(H:Hp)(D:Ends),Inv X ah σ H s->t D σ H->wq X (exec st X.env) (SP X ah D) X.xe s
def tY (X:Cx)(st:List Stmt)(t:TS):Prop :=
 ∀(ah:AO)(s:Shared)(σ:St)(H:Hp)(D:Ends),Inv X ah σ H s->t D σ H->wq X (execs st X.env) (SP X ah D) X.xe s
def c9 {α:Type}{t:Sem α}{Q G:α->Shared->Prop}{M:Model}{A:Around}{E:QV}{s:Shared}(h:wpAny M A t Q E s)(O:∀a s,Q a s->G a s):wpAny M A t G E s:=wpAny_mono h O λ_ _ x=>x
section
variable {X:Cx}
def pP (i:Nat):TE:=λσ H Q=>∃v,σ[i]? = some (some v)/\Q v H
def tC (v:V):TE:=λ_ H Q=>Q v H
def wM (O:X.N[i]? = some x)(hv:Nk X.env.scope x)(hd:(x == ("__debug__" : Str))=false:=by decide)(M:(x == ("__classdict__" : Str))=false:=by decide):PE X (.Name x pos) (pP i):=by
 intro ah s σ H Q I h;obtain⟨v,e,h⟩:=h;obtain⟨m,hn,hl⟩:=I.loc;obtain⟨u,r,l⟩:=hl i x v O e hv;have jv:EP X ah σ Q u s:=⟨v,H,I,r,h⟩;rcases l with⟨hk,hm⟩|⟨hk,c,hc,G⟩
 ·exact wpAny_Name (wpAny_loadName_local I.ok.kind hk hn hm jv) hd
 ·rcases hk with hk|hk
  ·exact wpAny_Name (wpAny_loadName_cell I.ok.kind hk hc G jv) hd
  ·exact wpAny_Name (wpAny_loadName_free I.ok.kind hk hc G jv M) hd
def Lc {i j pos}:PE X (.Constant (.int i) j pos) (tC (.int i)):=λ_ _ _ H _ I h=>wpAny_Constant_int ⟨.int i,H,I.tok _,⟨_,rfl⟩,h⟩
def NP {b j pos}:PE X (.Constant (.bool b) j pos) (tC (.bl b)):=λ_ _ _ H _ I h=>Constant_bool ⟨.bl b,H,I,rfl,h⟩
def Ld {j pos}:PE X (.Constant .none j pos) (tC .non):=λ_ _ _ H _ I h=>Constant_none ⟨.non,H,I,rfl,h⟩
def Le {x j pos}:PE X (.Constant (.str x) j pos) (tC (.str x)):=λ_ _ _ H _ I h=>Calls.Constant_str ⟨.str x,H,I.tok _,⟨_,rfl⟩,h⟩
def Gl (X:Cx)(x:Str):Prop:=X.env.kindOf x=some .globalImplicit
def wN {E:QV}{ah:AO}{s:Shared}{σ:St}{H:Hp}{x:Str}{u:Value}{G:Pos}{Q:QV}(I:Inv X ah σ H s)(M:Gl X x)(hm:X.mg x=some u)(h:Q u s)
  (hd:(x == ("__debug__" : Str))=false:=by decide):wq X (eval (.Name x G) X.env) Q E s :=
 Calls.Name_function_global I.ok.kind M (Calls.loadGlobal_global (by rw[I.ok.glob];exact I.mod.glob.keeps I.bk) hm h) hd
def je {E:QV}{ah:AO}{s:Shared}{σ:St}{H:Hp}{x:Str}{u:Value}{G:Pos}{Q:QV}(I:Inv X ah σ H s)(M:Gl X x)(hm:X.mg x=none)(hv:bootBuiltins x=some u)(h:Q u s)
  (hn:x ≠ "__name__":=by decide) (hd:(x == ("__debug__" : Str))=false:=by decide):wq X (eval (.Name x G) X.env) Q E s:=by
 obtain⟨mb,h1,h2⟩:=I.mod.blt;exact Calls.Name_function_global I.ok.kind M (Calls.loadGlobal_builtin (by rw[I.ok.glob];exact I.mod.glob.keeps I.bk) hm (by rw[I.ok.blt];exact h1.keeps I.bk) ((h2 x hn).trans hv) h) hd
def qc (G:Gl X x)(hm:X.mg x=some u)(r:bd v u)(hd:(x == ("__debug__" : Str))=false:=by decide):PE X (.Name x pos) (tC v) :=
 λ_ _ _ H _ I h=>wN I G hm ⟨v,H,I,r,h⟩ hd
def HJ (G:Gl X x)(hm:X.mg x=none)(hv:bootBuiltins x=some u)(r:bd v u)(hn:x ≠ "__name__":=by decide)(hd:(x == ("__debug__" : Str))=false:=by decide):PE X (.Name x pos) (tC v) :=
 λ_ _ _ H _ I h=>je I G hm hv ⟨v,H,I,r,h⟩ hn hd
def UN (ta tb:TE)(k:Int->Int->Hp->Prop):St->Hp->Prop:=λσ H=>ta σ H λx G=>tb σ G λy H2=>∃i j,x=.int i/\y=.int j/\k i j H2
variable {a b:Expr}{ta tb:TE}{pos:Pos}
def PC (X:Cx)(op:CmpOp)(a b:Expr)(t:TE):Prop :=
 ∀(ah:AO)(s:Shared)(σ:St)(H:Hp)(Q:VK),Inv X ah σ H s->t σ H Q ->
  wq X (eval a X.env) (λv G=>wq X (eval b X.env) (λu M=>wq X (compareOp op v u) (EP X ah σ Q) X.xe M) X.xe G) X.xe s
def ko (b:Expr){op:CmpOp}(h:op≠.In)(h2:op≠.NotIn):behindInMarks op b=false:=by
 have G:(op == CmpOp.In)=false:=by cases op<;>first|rfl|exact absurd rfl h
 have e2:(op == CmpOp.NotIn)=false:=by cases op<;>first|rfl|exact absurd rfl h2
 cases b<;>simp[behindInMarks,G,e2]
def QN (p:Int->Int->Bool)(ta tb:TE):TE:=λσ H Q=>UN ta tb (λi j H2=>Q (.bl (p i j)) H2) σ H
abbrev Lf:TE->TE->TE:=QN λi j=>decide (i<j)
def tB (t:TE):TT:=λσ H Q=>t σ H λx G=>∃c,x=.bl c/\Q c G
def Lg (h:PC X op a b t)(h1:behindInMarks op b=false:=by first|exact ko _ (by decide) (by decide)|rfl):PE X (.Compare a [op] [b] pos) t:=λah s σ H Q I hw=>wpAny_Compare1 (h ah s σ H Q I hw) h1
def Lh {e:Expr}{t:TE}(h:PE X e t)(he:∀G,isTrue e X.env G=(do let v ←G;standAt e.pos;holding [v] (truthy v)):=by intro _;rfl):PT X e (tB t):=by
 intro ah s σ H Q I hw;refine isTrue_plain (c9 (h ah s σ H _ I hw) λv s1 ⟨x,M,O,T,U⟩=>?_) (he _);obtain⟨d,rfl,q⟩:=U;cases T
 exact wpAny_truthy_bool ⟨M,O,q⟩
variable {tA Q2:TT}{ay:QD}
def NQ (t u:TT):TT:=λσ H Q=>t σ H λc G=>if c=true then u σ G Q else Q false G
def SU (t u:TT):TT:=λσ H Q=>t σ H λc G=>if c=true then Q true G else u σ G Q
def NR (t:TT):TT:=λσ H Q=>t σ H λc G=>Q (!c) G
def HK (ha:PT X a tA):PW X (.BoolOp .And [a] pos) tA:=by
 intro G ah s σ H Q I h;refine isTrue_and (c9 (ha ah s σ H Q I h) λc s1 e=>?_);cases c with
 |true=>exact isTrue_and_nil e
 |false=>exact e
def Li (ha:PT X a tA):PW X (.BoolOp .Or [a] pos) tA:=by
 intro G ah s σ H Q I h;refine isTrue_or (c9 (ha ah s σ H Q I h) λc s1 e=>?_);cases c with
 |false=>exact isTrue_or_nil e
 |true=>exact e
def Lj (ha:PT X a tA)(hb:PW X (.BoolOp .And (b::ay) pos) Q2):PW X (.BoolOp .And (a::b::ay) pos) (NQ tA Q2):=by
 intro T ah s σ H Q I h;refine isTrue_and (c9 (ha ah s σ H _ I h) λc s1 ⟨G,M,O⟩=>?_);cases c with
 |true=>exact hb T ah s1 σ G Q M O
 |false=>exact⟨G,M,O⟩
def NS (ha:PT X a tA)(hb:PW X (.BoolOp .Or (b::ay) pos) Q2):PW X (.BoolOp .Or (a::b::ay) pos) (SU tA Q2):=by
 intro T ah s σ H Q I h;refine isTrue_or (c9 (ha ah s σ H _ I h) λc s1 ⟨G,M,O⟩=>?_);cases c with
 |true=>exact⟨G,M,O⟩
 |false=>exact hb T ah s1 σ G Q M O
def Lk (ha:PT X a tA):PT X (.UnaryOp .Not a pos) (NR tA):=by
 intro ah s σ H Q I h;exact isTrue_not (ha ah s σ H (λc G=>Q (!c) G) I h)
def NT (ta tb:TE):TE:=λσ H Q=>ta σ H λx G=>∃c,x=.bl c/\if c=true then tb σ G Q else Q (.bl false) G
def QP (ta tb:TE):TE:=λσ H Q=>ta σ H λx G=>∃c,x=.bl c/\if c=true then Q (.bl true) G else tb σ G Q
def NU (ta:TE):TE:=λσ H Q=>ta σ H λx G=>∃c,x=.bl c/\Q (.bl (!c)) G
def Ll {op}(h:PE X a t):PE X (.BoolOp op [a] pos) t:=λah s σ H Q I hw=>BoolOp_one (h ah s σ H Q I hw)
def Lm (ha:PE X a ta)(hb:PE X (.BoolOp .And (b::ay) pos) tb):PE X (.BoolOp .And (a::b::ay) pos) (NT ta tb):=by
 intro ah s σ H Q I h;refine BoolOp_and (c9 (ha ah s σ H _ I h) λv s1 ⟨x,M,O,T,G⟩=>?_);obtain⟨c,rfl,G⟩:=G;cases T
 refine wpAny_truthy_bool ?_;cases c with
 |true=>exact hb ah s1 σ M Q O G
 |false=>exact⟨.bl false,M,O,rfl,G⟩
def NV (ha:PE X a ta)(hb:PE X (.BoolOp .Or (b::ay) pos) tb):PE X (.BoolOp .Or (a::b::ay) pos) (QP ta tb):=by
 intro ah s σ H Q I h;refine BoolOp_or (c9 (ha ah s σ H _ I h) λv s1 ⟨x,M,O,T,G⟩=>?_);obtain⟨c,rfl,G⟩:=G;cases T
 refine wpAny_truthy_bool ?_;cases c with
 |false=>exact hb ah s1 σ M Q O G
 |true=>exact⟨.bl true,M,O,rfl,G⟩
def Ln (ha:PE X a ta):PE X (.UnaryOp .Not a pos) (NU ta):=by
 intro ah s σ H Q I h;refine UnaryOp_ (c9 (ha ah s σ H _ I h) λv s1 ⟨x,M,O,T,G⟩=>?_);obtain⟨c,rfl,G⟩:=G;cases T
 exact not_of (wpAny_truthy_bool ⟨.bl (!c),M,O,rfl,G⟩)
end
def iQ (K:Frag)(H:Hp)(a:Addr)(xs:List V):Prop :=
 Rd H a (.lst xs) ∨
  ∃(o:Obj)(its:AV)(n:Nat),K.lookup a=some o/\o.cls=.type "list"/\o.dict=none/\o.data=.seq its n/\its.size<=sizeLine/\bu xs its.toList
def jt (K:Frag)(H:Hp)(a:Addr)(xs:List V):Prop :=
 Rd H a (.tup xs) ∨
  ∃(o:Obj)(its:AV)(n:Nat),K.lookup a=some o/\o.cls=.type "tuple"/\o.data=.seq its n/\its.size<=sizeLine/\bu xs its.toList
noncomputable def QQ:Value->Option V
 |.none=>some .non
 |.bool b=>some (.bl b)
 |.int i _=>some (.int i)
 |.str x _=>some (.str x)
 |.bytes b _=>some (.byt b)
 |.float b _=>some (.flt b)
 |.ref a=>some (.ref a)
 |.type n=>some (.ty n)
 |_=>none
def bd.abs (r:bd x u):QQ u=some x:=by
 cases x with
 |non=>cases r;rfl
 |bl _=>cases r;rfl
 |int _=>obtain⟨t,rfl⟩:=r;rfl
 |str _=>obtain⟨t,rfl⟩:=r;rfl
 |byt _=>obtain⟨t,rfl⟩:=r;rfl
 |flt _=>obtain⟨t,rfl⟩:=r;rfl
 |ref _=>cases r;rfl
 |ty _=>cases r;rfl
def bd.inj (r:bd x u)(q:bd y u):x=y:=vK (r.abs.symm.trans q.abs)
theorem bu.inj:∀ {xs ys:List V}{us:LU},bu xs us->bu ys us->xs=ys
 |_,_,_,.nil,.nil=>rfl
 |_,_,_,.cons r t,.cons G t'=>by rw[r.inj G,bu.inj t t']
section
variable {X:Cx}{ah:AO}{σ:St}{H:Hp}{s:Shared}{a:Addr}{xs ys:List V}
def iQ.of {K:Frag}(h:H a=some (.lst xs)):iQ K H a xs:=.inl (.inl h)
def jt.of {K:Frag}(h:H a=some (.tup xs)):jt K H a xs:=.inl (.inl h)
def Inv.list (I:Inv X ah σ H s)(h:iQ X.K H a xs):∃its:LU,bu xs its/\PlainL s.heap a its.toArray/\xs.length<=sizeLine:=by
 rcases h with h|⟨o,its,n,hk,hc,hd,hs,hz,r⟩
 ·obtain⟨z,its,n,r,e⟩:=h.ok I.hok;exact⟨its,r,⟨_,n,e,rfl,rfl,rfl⟩,z⟩
 ·refine⟨its.toList,r,⟨o,n,I.kIn a o hk,hc,hd,by simpa using hs⟩,?_⟩;have e:=r.length;simp only[vG]at e;omega
def Inv.tuple (I:Inv X ah σ H s)(h:jt X.K H a xs):∃its:LU,bu xs its/\IsTup s.heap a its.toArray/\xs.length<=sizeLine:=by
 rcases h with h|⟨o,its,n,hk,hc,hs,hz,r⟩
 ·obtain⟨z,its,r,p⟩:=h.ok I.hok;exact⟨its,r,p,z⟩
 ·refine⟨its.toList,r,⟨o,I.kIn a o hk,hc,n,by simpa using hs⟩,?_⟩;have e:=r.length;simp only[vG]at e;omega
def Inv.list_inj (I:Inv X ah σ H s)(h:iQ X.K H a xs)(h':iQ X.K H a ys):xs=ys:=by
 obtain⟨its,r,⟨o,n,e,_,_,d⟩,_⟩:=I.list h;obtain⟨its',M,⟨o',O,G,_,_,d'⟩,_⟩:=I.list h';rw[e]at G;cases G;rw[d]at d';injection d' with d1 _;have:its=its':=by simpa using congrArg Array.toList d1
 subst this;exact r.inj M
def Inv.tuple_inj (I:Inv X ah σ H s)(h:jt X.K H a xs)(h':jt X.K H a ys):xs=ys:=by
 obtain⟨its,r,⟨o,e,_,n,d⟩,_⟩:=I.tuple h;obtain⟨its',M,⟨o',G,_,O,d'⟩,_⟩:=I.tuple h';rw[e]at G;cases G;rw[d]at d';injection d' with d1 _;have:its=its':=by simpa using congrArg Array.toList d1
 subst this;exact r.inj M
end
noncomputable abbrev Cx.wish (X:Cx)(E:QV):Cx:={ X with xe:=E }
noncomputable abbrev Cx.nox (X:Cx):Cx:=X.wish λ_ _=>False
def Cx.Ok.wish {X:Cx}(ok:X.Ok)(E:QV):(X.wish E).Ok :=
 ⟨ok.mod,ok.kind,ok.glob,ok.blt,ok.above,ok.inj,ok.has,ok.cab,ok.hd,ok.frames,ok.stk,ok.exf,ok.bs,ok.bsz,ok.noex,ok.exfs,ok.funs,ok.frf⟩
def Cx.Ok.unwish {X:Cx}{E:QV}(ok:(X.wish E).Ok):X.Ok :=
 ⟨ok.mod,ok.kind,ok.glob,ok.blt,ok.above,ok.inj,ok.has,ok.cab,ok.hd,ok.frames,ok.stk,ok.exf,ok.bs,ok.bsz,ok.noex,ok.exfs,ok.funs,ok.frf⟩
section
variable {X:Cx}{ah:AO}{σ:St}{H:Hp}{s:Shared}{E:QV}
def Inv.wish (I:Inv X ah σ H s)(E:QV):Inv (X.wish E) ah σ H s:=⟨I.ok.wish E,I.os,I.bare,I.base,I.loc,I.cell,I.free,I.freeC,I.pin,I.hok,I.len⟩
def Inv.unwish (I:Inv (X.wish E) ah σ H s):Inv X ah σ H s:=⟨I.ok.unwish,I.os,I.bare,I.base,I.loc,I.cell,I.free,I.freeC,I.pin,I.hok,I.len⟩
def SP.unwish (h:SP (X.wish E) ah D f s'):SP X ah D f s':=by
 cases f with
 |next=>obtain⟨G,H',I,q⟩:=h;exact⟨G,H',I.unwish,q⟩
 |brk=>obtain⟨G,H',I,q⟩:=h;exact⟨G,H',I.unwish,q⟩
 |cont=>obtain⟨G,H',I,q⟩:=h;exact⟨G,H',I.unwish,q⟩
 |ret u=>obtain⟨v,G,H',I,r,q⟩:=h;exact⟨v,G,H',I.unwish,r,q⟩
def PE.nox (h:PE X.nox e t):PE X e t:=λah s σ H Q I hw=>
 wpAny_mono (h ah s σ H Q (I.wish _) hw) (λ_ _ ⟨v,H',G,r,q⟩=>⟨v,H',G.unwish,r,q⟩) λ_ _ z=>False.elim z
def PT.nox (h:PT X.nox e t):PT X e t:=λah s σ H Q I hw=>
 wpAny_mono (h ah s σ H Q (I.wish _) hw) (λ_ _ ⟨H',G,q⟩=>⟨H',G.unwish,q⟩) λ_ _ z=>False.elim z
def tY.nox {st:List Stmt}{t:TS}(h:tY X.nox st t):tY X st t:=λah s σ H D I hw=>
 wpAny_mono (h ah s σ H D (I.wish _) hw) (λ_ _ q=>q.unwish) λ_ _ z=>False.elim z
end
section
variable {X:Cx}{st:Stmt}{ay:List Stmt}{t u:TS}{e:Expr}{te:TE}{pos:Pos}
def Kn:TS:=λD σ H=>D.nx σ H
def NW (t u:TS):TS:=λD σ H=>t { D with nx:=u D } σ H
def HL:tY X [] Kn:=λ_ _ σ H _ I h=>wpAny_execs_nil ⟨σ,H,I,h⟩
def E8 (h1:PS X st t)(h2:tY X ay u):tY X (st::ay) (NW t u):=by
 intro ah s σ H D I h;refine wpAny_execs_cons (c9 (h1 ah s σ H { D with nx:=u D } I h) λf s1 q=>?_);cases f with
 |next=>
  obtain⟨G,H',M,q⟩:=q;exact h2 ah s1 G H' D M q
 |ret v=>exact q
 |brk=>exact q
 |cont=>exact q
def HM (h1:PS X st t):tY X [st] t:=by
 intro ah s σ H D I h;refine wpAny_execs_cons (c9 (h1 ah s σ H D I h) λf s1 q=>?_);cases f with
 |next=>exact wpAny_execs_nil q
 |ret v=>exact q
 |brk=>exact q
 |cont=>exact q
def NX:TS:=λD σ H=>D.ct σ H
def yq:PS X (.Continue pos) NX:=λ_ _ σ H _ I h=>wpAny_Continue ⟨σ,H,I,h⟩
def Inv.quiet (I:Inv X ah σ H s):interactive X.env=false:=by simp[interactive,I.ok.kind]
def NY (te:TE):TS:=λD σ H=>te σ H λ_ G=>D.nx σ G
def B9 (he:PE X e te)(hs:swapsWith e none pos.line X.env=pure false:=by rfl):PS X (.Expr e pos) (NY te):=by
 intro ah s σ H D I h;exact wpAny_Expr_any (c9 (he ah s σ H _ I h) λv s1 ⟨x,G,M,T,O⟩=>⟨σ,G,M,O⟩) I.quiet hs
def Lo (te:TE):TS:=λD σ H=>te σ H D.rt
def E9 (he:PE X e te):PS X (.Return (some e) pos) (Lo te):=by
 intro ah s σ H D I h;exact wpAny_Return_some (c9 (he ah s σ H _ I h) λv s1 ⟨x,G,M,O,T⟩=>⟨x,σ,G,M,O,T⟩)
def NZ (c:TT)(t u:TS):TS:=λD σ H=>c σ H λb G=>if b=true then t D σ G else u D σ G
def Oa {c:Expr}{a b:List Stmt}{G:TT}(hc:PT X c G)(ha:tY X a t)(hb:tY X b u):PS X (.If c a b pos) (NZ G t u):=by
 intro ah s σ H D I h;refine wpAny_If (c9 (hc ah s σ H _ I h) λd s1 ⟨M,O,T⟩=>?_);cases d with
 |true=>exact ha ah s1 σ M D O T
 |false=>exact hb ah s1 σ M D O T
end
abbrev TG:=V->St->Hp->(St->Hp->Prop)->Prop
abbrev Lp:=List V->St->Hp->(St->Hp->Prop)->Prop
def PG (X:Cx)(G:Expr)(t:TG):Prop :=
 ∀(ah:AO)(s:Shared)(σ:St)(H:Hp)(v:V)(u:Value)(Q:St->Hp->Prop),Inv X ah σ H s->bd v u->t v σ H Q ->
  wq X (assign G X.env u) (λ_ s'=>∃M H',Inv X ah M H' s'/\Q M H') X.xe s
def Qn (X:Cx)(M:QD)(t:Lp):Prop :=
 ∀(ah:AO)(s:Shared)(σ:St)(H:Hp)(vs:List V)(us:LU)(Q:St->Hp->Prop),Inv X ah σ H s->bu vs us->t vs σ H Q ->
  wq X (assignInOrder ((assignEach M X.env).map (·.2)) us) (λ_ s'=>∃G H',Inv X ah G H' s'/\Q G H') X.xe s
section
variable {X:Cx}{pos:Pos}
def jZ (i:Nat):TG:=λv σ H Q=>Q (σ.set i (some v)) H
def BA (G:X.N.Nodup)(hi:X.N[i]? = some x)(hx:Hu X.env.scope x)(hf:X.fn x=true∨X.env.scope.names.lookup x=some .local:=by first|exact .inl rfl|exact .inr rfl|assumption):PG X (.Name x pos) (jZ i):=by
 intro ah s σ H v u Q I r h;exact wpAny_assign_Name (yp I G hi hx r (λs' M=>⟨_,H,M,h⟩) hf)
def Ob:Lp:=λvs σ H Q=>vs=[]/\Q σ H
def Ko (t:TG)(u:Lp):Lp:=λvs σ H Q=>∃v r,vs=v::r/\t v σ H λG H'=>u r G H' Q
def wO:Qn X [] Ob:=by
 intro ah s σ H vs us Q I r h;obtain⟨e,h⟩:=h;subst e;cases r
 exact assignInOrder_nil ⟨σ,H,I,h⟩
def jw {e:Expr}{es:QD}{t:TG}{u:Lp}(h1:PG X e t)(h2:Qn X es u)
  (hs:(assignEach (e::es) X.env).map (·.2)=assign e X.env::(assignEach es X.env).map (·.2):=by rfl):Qn X (e::es) (Ko t u):=by
 intro ah s σ H vs us Q I r h;obtain⟨v,vr,M,h⟩:=h;subst M;cases r with
 |cons r O=>
  rw[hs];refine assignInOrder_cons (c9 (h1 ah s σ H _ _ _ I r h) λ_ s1 ⟨G,T,U,q1⟩=>?_);exact h2 ah s1 G T _ _ Q U O q1
def Lq (K:Frag)(n:Nat)(t:Lp):TG:=λv σ H Q=>∃a xs,v=.ref a/\jt K H a xs/\xs.length=n/\t xs σ H Q
def A2 (hc:X.calm=true)(h:Qn X es t)
  (hn:(assignEach es X.env).length=n:=by rfl) (G:(assignEach es X.env).findIdx? (·.1)=none:=by rfl):PG X (.Tuple es k pos) (Lq X.K n t):=by
 intro ah s σ H v u Q I r hw;obtain⟨a,xs,O,hq,hl,hw⟩:=hw;subst O;cases r
 obtain⟨its,M,T,hz⟩:=I.tuple hq;refine assign_Tuple_tuple (I.ok.hd hc) T (by simp[hn,←hl,M.length]) G λh' hx=>?_;have U:Inv X ah σ H { s with heap:=h' }:=I.kept (t':=s.toks) λb o e=>hx b o (vS (vX e)) e;exact h ah _ σ H xs _ Q U (by simpa using M) hw
def Dk (G:TE)(g:TG):TS:=λD σ H=>G σ H λx M=>g x σ M D.nx
def wP {i:Nat}{x:Str}{e:Expr}{M:TE}{G:Pos}(O:X.N.Nodup)(hi:X.N[i]? = some x)(hx:Hu X.env.scope x)(he:PE X e M)(hs:swapsWith e (some (.Name x G)) pos.line X.env=pure false:=by rfl)(hf:X.fn x=true∨X.env.scope.names.lookup x=some .local:=by first|exact .inl rfl|exact .inr rfl|assumption):
  PS X (.Assign [.Name x G] e pos) (Dk M (jZ i)):=by
 intro ah s σ H D I h;refine wpAny_Assign_Name (c9 (he ah s σ H _ I h) λv s1 ⟨y,T,U,r1,q1⟩=>?_) hs;exact yp U O hi hx r1 (λs2 I2=>⟨_,T,I2,q1⟩) hf
end
section
variable {X:Cx}{pos:Pos}
def EA (c:TT)(tb:TS):TS:=λD σ H=>∃W:Nat->St->Hp->Prop,(∃m,W m σ H)/\∀m σ H,W m σ H ->
 c σ H λb M=>if b=true then ∃N:St->Hp->Prop,(∀G H',N G H'->∃O,O<m/\W O G H')/\tb { D with nx:=N,ct:=N,bk:=D.nx } σ M else D.nx σ M
def EB {c:Expr}{O:List Stmt}{tc:TT}{tb:TS}(hp:PassesOwn (model X.prog X.w) X.A X.env X.xe)(hc:PT X c tc)(hb:tY X O tb):PS X (.While c O [] pos) (EA tc tb):=by
 intro ah s σ H D I h;obtain⟨W,⟨m0,w0⟩,T⟩:=h;refine wpAny_While (codeAny_whileLoop (λn s'=>∃U H',Inv X ah U H' s'/\W n U H') ?_ m0 ⟨σ,H,I,w0⟩);rintro n s1 ⟨M,H1,I1,w1⟩;refine wpAny_passesOwn hp (c9 (hc ah s1 M H1 _ I1 (T n M H1 w1)) λb s2 ⟨H2,I2,q2⟩=>?_);cases b with
 |true=>
  obtain⟨N,hN,q2⟩:=q2;rw[if_pos rfl];refine wpAny_passesOwn hp (c9 (hb ah s2 M H2 _ I2 q2) λf s3 q3=>?_);cases f with
  |next=>
   obtain⟨G,H3,I3,n3⟩:=q3;obtain⟨m',hm,w3⟩:=hN G H3 n3;exact⟨m',hm,G,H3,I3,w3⟩
  |cont=>
   obtain⟨G,H3,I3,n3⟩:=q3;obtain⟨m',hm,w3⟩:=hN G H3 n3;exact⟨m',hm,G,H3,I3,w3⟩
  |brk=>exact q3
  |ret v=>exact q3
 |false=>
  rw[if_neg uX];exact wpAny_execs_nil ⟨M,H2,I2,q2⟩
end
structure It where
 go:Nat->Hp->Prop
 yld:Nat->Hp->V->Hp->Prop
 stop:Nat->Hp->Prop
def lZ (X:Cx)(ah:AO)(H:Hp)(b:Addr):Prop :=
 H b=none/\b≠X.env.locals/\b∉X.fs/\(b∈X.ex∨X.s₀.heap.objs.size<=b)/\(∀x c,X.env.cells.lookup x=some c->c≠b)/\∀p∈X.pn++ah,p.1≠b
def Inv.fpOk (I:Inv X ah σ H s)(hb:s.heap.objs.size<=b)(hn:H' b=none):lZ X ah H' b:=by
 refine⟨hn,ne_of_gt (vQ I.lt hb),I.nofs hb,.inr (vR I.sz hb),λx c e z=>?_,λp hp z=>?_⟩
 ·obtain⟨v,q⟩:=I.cell x c e;exact absurd (vQ q.lt (by rw[z];exact hb)) (Nat.lt_irrefl _)
 ·exact absurd (vQ (vX (I.pin p hp).1) (by rw[z];exact hb)) (Nat.lt_irrefl _)
structure Turn (P:Program)(w:World)(K:Frag)(tg:Expr)(J:It)(fp:List Addr)(it:Addr)(tn:Nat->Heap->Prop):Prop where
 mem:it∈fp
 obj:∀i h,tn i h->∀b∈fp,∃o,h.get? b=some o/\∀v,o.data≠.cell v
 keep:∀i h h',tn i h->(∀b∈fp,∀o,h.get? b=some o->h'.get? b=some o)->tn i h'
 item:∀(X:Cx),X.prog=P->X.w=w->X.K=K->X.calm=true->∀(i:Nat)(ah:List (Addr×Obj))(s:Shared)(σ:St)(H:Hp)(E:Value->Shared->Prop),Inv X ah σ H s->(∀b∈fp,lZ X ah H b)->tn i s.heap->J.go i H ->
  wpAny (model P w) X.A (pyNext (.ref it)) (λr s1=>∃u,r=some u /\
   wpAny (model P w) X.A (letOwnedTupleGo tg (.ref it) u) (λ_ s2=>∃x H',Inv X ah σ H' s2/\bd x u/\J.yld i H x H'/\tn (i+1) s2.heap/\∀b∈fp,H' b=none) E s1) E s
 done:∀(X:Cx),X.prog=P->X.w=w->X.K=K->X.calm=true->∀(i:Nat)(ah:List (Addr×Obj))(s:Shared)(σ:St)(H:Hp)(E:Value->Shared->Prop),Inv X ah σ H s->(∀b∈fp,lZ X ah H b)->tn i s.heap->J.stop i H ->
  wpAny (model P w) X.A (pyNext (.ref it)) (λr s1=>r=none/\Inv X ah σ H s1) E s
 self:∀(A:Around)(i:Nat)(s:Shared)(Q:Value->Shared->Prop)(E:Value->Shared->Prop),tn i s.heap->Q (.ref it) s->wpAny (model P w) A (pyIter (.ref it)) Q E s
abbrev TI:=St->Hp->(It->Hp->Prop)->Prop
def SW (X:Cx)(ah:AO)(σ:St)(tg:Expr)(R:It->Hp->Prop)(G:Value)(s2:Shared):Prop :=
 ∃(it:Addr)(fp:List Addr)(tn:Nat->Heap->Prop)(J:It)(H':Hp),G=.ref it/\Inv X ah σ H' s2/\Turn X.prog X.w X.K tg J fp it tn/\tn 0 s2.heap/\(∀b∈fp,lZ X ah H' b)/\R J H'
def PI (X:Cx)(tg G:Expr)(M:TI):Prop :=
 ∀(ah:AO)(s:Shared)(σ:St)(H:Hp)(R:It->Hp->Prop),Inv X ah σ H s->M σ H R ->
  wq X (eval G X.env) (λv s1=>wq X (pyIter v) (SW X ah σ tg R) X.xe s1) X.xe s
def uu (O:s.heap.get? it=some o)(hc:o.cls=.type n)(hd:o.data=.fields vs)
    (hn:["enumerate","zip","dict_itemiterator","dict_reverseitemiterator","odict_iterator","itertools.zip_longest","itertools.pairwise"].contains n=false) (G:Q () s):wpAny M A (letOwnedTupleGo tg (.ref it) u) Q E s:=by
  unfold letOwnedTupleGo;cases tg<;>first
    |exact wY G
    | (cases u<;>first
        |exact wY G
        | (refine wX (wpAny_load O ?_)
           rw[hc,hd]
           show wpAny M A (if(["enumerate","zip","dict_itemiterator","dict_reverseitemiterator","odict_iterator","itertools.zip_longest","itertools.pairwise"].contains n && vs[0]? == some (rawInt _))=true then _ else _) Q E s
           rw[if_neg (by intro h;rw[hn,Bool.false_and]at h;cases h)]
           exact wY G))
noncomputable def SX (K:Frag)(a:Addr):It :=
 ⟨λi H=>∃xs x,iQ K H a xs/\xs[i]? = some x,λi H x H'=>H'=H/\∀xs,iQ K H a xs->xs[i]? = some x,λi H=>∃xs,iQ K H a xs/\xs.length<=i⟩
noncomputable def SY (K:Frag)(a:Addr):It :=
 ⟨λi H=>∃xs x,jt K H a xs/\xs[i]? = some x,λi H x H'=>H'=H/\∀xs,jt K H a xs->xs[i]? = some x,λi H=>∃xs,jt K H a xs/\xs.length<=i⟩
noncomputable def Qo (lo:Int)(n:Nat):It:=⟨λi _=>i<n,λi H x H'=>H'=H/\x=.int (lo+i),λi _=>n<=i⟩
def Dl {P:Program}{w:World}{K:Frag}{tg:Expr}(a it:Addr):Turn P w K tg (SX K a) [it] it (λi h=>h.IsListIter it a i) where
 mem:=by simp
 obj:=λi h st b hb=>by
  have e:b=it:=by simpa using hb
  subst e;obtain⟨o,e,c,d⟩:=st;exact⟨o,e,λv z=>by rw[d]at z;cases z⟩
 keep:=λi h h' st k=>st.at λo e=>k it (by simp) o e
 item:=by
  intro X M hw O hc i ah s σ H E I hf st T;subst M hw O;obtain⟨xs,x,hq,hx⟩:=T;obtain⟨its,U,p,hz⟩:=I.list hq;obtain⟨u,hu,ru⟩:=U.get hx;obtain⟨f0,f1,f2,f3,f4,f5⟩:=hf it (by simp);refine wpAny_pyNext_list_item st p.isList (x:=u) (by simpa using hu) λh' G sb=>?_;have I1:Inv X ah σ H { s with heap:=h' }:=I.turned (t':=s.toks) (λb o hb e=>(sb.2 b hb).trans e) f0 f1 f3 f4 f5;obtain⟨o,e,c,d⟩:=id G;exact⟨u,rfl,uu (s:={ s with heap:=h' }) e c d (by decide) ⟨x,H,I1,ru,⟨rfl,λys hy=>by rw[I.list_inj hy hq];exact hx⟩,G,λb hb=>(hf b hb).1⟩⟩
 done:=by
  intro X M hw O hc i ah s σ H E I hf st T;subst M hw O;obtain⟨xs,hq,hx⟩:=T;obtain⟨its,U,p,hz⟩:=I.list hq;obtain⟨f0,f1,f2,f3,f4,f5⟩:=hf it (by simp);have hl:=U.length;exact wpAny_pyNext_list_end (I.ok.hd hc) st p.isList (by simp;omega) λh' eb=>⟨rfl,I.turned (t':=s.toks) (λb o hb e=>eb b o hb e) f0 f1 f3 f4 f5⟩
 self:=λ_ _ _ _ _ st h=>wpAny_pyIter_listiter st h
def A3 {P:Program}{w:World}{K:Frag}{tg:Expr}(a it:Addr):Turn P w K tg (SY K a) [it] it (λi h=>h.IsTupleIter it a i) where
 mem:=by simp
 obj:=λi h st b hb=>by
  have e:b=it:=by simpa using hb
  subst e;obtain⟨o,e,c,d⟩:=st;exact⟨o,e,λv z=>by rw[d]at z;cases z⟩
 keep:=λi h h' st k=>st.at λo e=>k it (by simp) o e
 item:=by
  intro X M hw O hc i ah s σ H E I hf st T;subst M hw O;obtain⟨xs,x,hq,hx⟩:=T;obtain⟨its,U,p,hz⟩:=I.tuple hq;obtain⟨u,hu,ru⟩:=U.get hx;obtain⟨f0,f1,f2,f3,f4,f5⟩:=hf it (by simp);refine wpAny_pyNext_tuple_item st (show s.heap.IsTuple a its.toArray from p) (x:=u) (by simpa using hu) λh' G sb=>?_;have I1:Inv X ah σ H { s with heap:=h' }:=I.turned (t':=s.toks) (λb o hb e=>(sb.2 b hb).trans e) f0 f1 f3 f4 f5;obtain⟨o,e,c,d⟩:=id G;exact⟨u,rfl,uu (s:={ s with heap:=h' }) e c d (by decide) ⟨x,H,I1,ru,⟨rfl,λys hy=>by rw[I.tuple_inj hy hq];exact hx⟩,G,λb hb=>(hf b hb).1⟩⟩
 done:=by
  intro X M hw O hc i ah s σ H E I hf st T;subst M hw O;obtain⟨xs,hq,hx⟩:=T;obtain⟨its,U,p,hz⟩:=I.tuple hq;obtain⟨f0,f1,f2,f3,f4,f5⟩:=hf it (by simp);have hl:=U.length;exact wpAny_pyNext_tuple_end (I.ok.hd hc) st (show s.heap.IsTuple a its.toArray from p) (by simp;omega) λh' eb=>⟨rfl,I.turned (t':=s.toks) (λb o hb e=>eb b o hb e) f0 f1 f3 f4 f5⟩
 self:=λ_ _ _ _ _ st h=>wpAny_pyIter_tupleiter st h
def A4 {P:Program}{w:World}{K:Frag}{tg:Expr}(it:Addr)(lo:Int)(n:Nat):Turn P w K tg (Qo lo n) [it] it (λi h=>IsRangeIter h it (lo+(i:Nat)*1) ((n:Int) - (i:Nat)) 1) where
 mem:=by simp
 obj:=λi h st b hb=>by
  have e:b=it:=by simpa using hb
  subst e;exact⟨_,st,λv z=>by
   have U:Data.fields _=Data.cell v:=z;cases U⟩
 keep:=λi h h' st k=>k it (by simp) _ st
 item:=by
  intro X M hw O hc i ah s σ H E I hf st T;subst M hw O;obtain⟨f0,f1,f2,f3,f4,f5⟩:=hf it (by simp);have W:=Walks.range (prog:=X.prog) (w:=X.w) (I.ok.hd hc) it lo 1 n;refine W.item i s _ _ T st λv h' tk hv G kk=>?_;obtain⟨t,rfl⟩:=hv;have I1:Inv X ah σ H { s with heap:=h',toks:=tk }:=I.turned (λb o hb e=>kk b o (by simpa using hb) e) f0 f1 f3 f4 f5;refine⟨_,rfl,uu (s:={ s with heap:=h',toks:=tk }) (n:="range_iterator") G rfl rfl (by decide) ⟨.int (lo+i),H,I1,⟨t,?_⟩,⟨rfl,rfl⟩,G,λb hb=>(hf b hb).1⟩⟩;rw[Int.mul_one]
 done:=by
  intro X M hw O hc i ah s σ H E I hf st T;subst M hw O;obtain⟨f0,f1,f2,f3,f4,f5⟩:=hf it (by simp);exact wpAny_pyNext_range_end (I.ok.hd hc) st (by have:n<=i:=T;omega) λh' eb=>⟨rfl,I.turned (t':=s.toks) (λb o hb e=>eb b o hb e) f0 f1 f3 f4 f5⟩
 self:=λ_ _ _ _ _ st h=>wpAny_pyIter_rangeiter st h
section
variable {X:Cx}{tg:Expr}
def Oc (K:Frag)(tl:TE):TI:=λσ H R=>tl σ H λx G=>∃a,x=.ref a/\(∃xs,iQ K G a xs)/\R (SX K a) G
def QR (K:Frag)(tl:TE):TI:=λσ H R=>tl σ H λx G=>∃a,x=.ref a/\(∃xs,jt K G a xs)/\R (SY K a) G
def HN {l:Expr}{tl:TE}(hl:PE X l tl):PI X tg l (Oc X.K tl):=by
 intro ah s σ H R I h;refine c9 (hl ah s σ H _ I h) λv s1 ⟨x,M,G,O,T⟩=>?_;obtain⟨a,e,⟨xs,hq⟩,q⟩:=T;subst e;cases O
 obtain⟨its,U,p,hz⟩:=G.list hq;refine wpAny_pyIter_list p.isList ?_;refine⟨s1.heap.objs.size,[s1.heap.objs.size],_,_,M,rfl,G.kept (t':=s1.toks) λb o e=>vZ _ e,Dl a _,⟨_,vY _ rfl,rfl,rfl⟩,λb hb=>?_,q⟩;have e:b=s1.heap.objs.size:=by simpa using hb
 subst e;exact G.fpOk (vT _) (G.hok.fresh (vT _))
def Lr {l:Expr}{tl:TE}(hl:PE X l tl):PI X tg l (QR X.K tl):=by
 intro ah s σ H R I h;refine c9 (hl ah s σ H _ I h) λv s1 ⟨x,M,G,O,T⟩=>?_;obtain⟨a,e,⟨xs,hq⟩,q⟩:=T;subst e;cases O
 obtain⟨its,U,p,hz⟩:=G.tuple hq;refine wpAny_pyIter_tuple (show s1.heap.IsTuple a its.toArray from p) ?_;refine⟨s1.heap.objs.size,[s1.heap.objs.size],_,_,M,rfl,G.kept (t':=s1.toks) λb o e=>vZ _ e,A3 a _,⟨_,vY _ rfl,rfl,rfl⟩,λb hb=>?_,q⟩;have e:b=s1.heap.objs.size:=by simpa using hb
 subst e;exact G.fpOk (vT _) (G.hok.fresh (vT _))
def EC {ah:AO}{σ:St}{H:Hp}{s:Shared}{R:It->Hp->Prop}{E:QV}{lo hi:Int}{t u v:Tok}{tk:Nat}(I:Inv X ah σ H s)(h1 : -(2 ^ 62)<=lo)(h2:lo<2 ^ 62)(h3 : -(2 ^ 62)<=hi)(h4:hi<2 ^ 62)
  (q:R (Qo lo (hi - lo).toNat) H):wq X (pyIter (.ref s.heap.objs.size)) (SW X ah σ tg R) E { s with heap:=s.heap.push { cls:=.type "range",data:=.fields #[.int lo t,.int hi u,.int 1 v] },toks:=tk }:=by
 refine wpAny_pyIter_range (IsRange.new ..) (small_one h1 h2 h3 h4) ?_;have G:Inv X ah σ H { s with heap:=s.heap.push { cls:=.type "range",data:=.fields #[.int lo t,.int hi u,.int 1 v] },toks:=tk }:=I.kept λb o e=>vZ _ e;refine⟨(s.heap.push { cls:=.type "range",data:=.fields #[.int lo t,.int hi u,.int 1 v] }).objs.size,[(s.heap.push { cls:=.type "range",data:=.fields #[.int lo t,.int hi u,.int 1 v] }).objs.size],_,_,H,rfl,
  G.kept (t':=tk) λb o e=>vZ _ e,A4 _ lo (hi - lo).toNat,?_,λb hb=>?_,q⟩
 ·have M:lo+((0:Nat):Int)*1=lo:=by simp
  have e2:(((hi - lo).toNat:Nat):Int) - ((0:Nat):Int)=Builtin.Range.rangeSize lo hi 1:=by rw[rangeSize_one];split<;>omega
  show IsRangeIter _ _ (lo+((0:Nat):Int)*1) ((((hi - lo).toNat:Nat):Int) - ((0:Nat):Int)) 1;rw[M,e2];exact vY _ rfl
 ·have e:b=(s.heap.push { cls:=.type "range",data:=.fields #[.int lo t,.int hi u,.int 1 v] }).objs.size:=by simpa using hb
  subst e;exact G.fpOk (vT _) (G.hok.fresh (vT _))
def Od (ta:TA):TI:=λσ H R=>ta σ H λvs G=>∃j:Int,vs=[.int j]/\-(2 ^ 62)<=j/\j<2 ^ 62/\R (Qo 0 j.toNat) G
def Dm {a:Expr}{ta:TA}{p G:Pos}(O:Gl X "range")(hm:X.mg "range" = none)(ha:PA X [a] ta)(hs:starEach [a] X.env=[(false,eval a X.env)]:=by rfl):PI X tg (.Call (.Name "range" p) [a] [] G) (Od ta):=by
 intro ah s σ H R I h;refine Call_ (je I O hm boot_range (PyProof.Rows.callWith_type1 (c9 (ha G ah s σ H _ I h) λus s1 ⟨vs,H1,T,U,M⟩=>?_) hs rfl));obtain⟨j,e,M,q2,q⟩:=M;subst e;cases U with
 |cons r rr=>
  cases rr
  obtain⟨t,rfl⟩:=r;exact call_range_1 (EC T (by omega) (by omega) M q2 (by simpa using q))
def Ls (T:TI)(g:TG)(tb:TS):TS:=λD σ H=>T σ H λJ U=>∃W:Nat->Nat->St->Hp->Prop,(∃m,W 0 m σ U)/\∀i m σ H,W i m σ H ->
 (J.stop i H/\D.nx σ H)∨(J.go i H/\∃N:St->Hp->Prop,(∀G H',N G H'->∃O,O<m/\W (i+1) O G H')/\∀x H',J.yld i H x H'->g x σ H' λM H2=>tb { D with nx:=N,ct:=N,bk:=D.nx } M H2)
def oh (fp:List Addr)(h:Heap):AO:=fp.filterMap λb=>(h.get? b).map λo=>(b,o)
def jJ {fp:List Addr}{h:Heap}{b:Addr}{o:Obj}(hb:b∈fp)(e:h.get? b=some o):(b,o)∈oh fp h:=mem_filterMap.mpr ⟨b,hb,by rw[e];rfl⟩
def Dn (hp:p∈oh fp h):p.1∈fp/\h.get? p.1=some p.2:=by
 obtain⟨b,hb,e⟩:=mem_filterMap.mp hp;cases q:h.get? b with
 |none=>rw[q]at e;cases e
 |some o=>
  rw[q]at e;have G:(b,o)=p:=vK e;subst G;exact⟨hb,q⟩
def Inv.pinned (I:Inv X ah σ H s)(hf:∀b∈fp,lZ X ah H b)(M:∀b∈fp,∃o,s.heap.get? b=some o/\∀v,o.data≠.cell v):Inv X (ah++oh fp s.heap) σ H s :=
 I.pins_of λp hp=>(mem_append.mp hp).elim (λz=>I.pin p (mY _ z)) λz=>by
  obtain⟨hb,e⟩:=Dn z;obtain⟨f0,f1,f2,_⟩:=hf p.1 hb;obtain⟨o,G,d⟩:=M p.1 hb;rw[e]at G;cases G;exact⟨e,f0,f1,f2,d⟩
def Inv.unpinned (I:Inv X (ah++pl) σ H s):Inv X ah σ H s:=I.pins_of λp hp=>I.pin p (mY _ (mem_append_left _ hp))
def ED {M:Expr}{body:List Stmt}{wi:TI}{g:TG}{tb:TS}{pos:Pos}(hp:PassesOwn (model X.prog X.w) X.A X.env X.xe)(hc:X.calm=true)(hi:PI X tg M wi)(hg:PG X tg g)(hb:tY X body tb)
  (hs:∀x,foldedSetIterable M X.env x=pure x:=by intro _;rfl):PS X (.For tg M body [] pos) (Ls wi g tb):=by
 intro ah s σ H D I h;refine wpAny_For (c9 (hi ah s σ H _ I h) λv s1 h1=>c9 h1 λTC s2 h2=>?_) hs;obtain⟨it,fp,tn,J,H2,e,I2,T,Kf,f2,W,⟨m0,w0⟩,RO⟩:=h2;subst e
 -- what stays true of the iterator's objects through the loop
 have O:∀ {H':Hp},(∀b∈fp,H' b=none)->∀b∈fp,lZ X ah H' b:=λhn b hb=>⟨hn b hb,(f2 b hb).2⟩;refine codeAny_forLoop_any (λn s'=>∃i U H',Inv X ah U H' s'/\tn i s'.heap/\(∀b∈fp,H' b=none)/\W i n U H') ?_ m0 ⟨0,σ,H2,I2,Kf,λb hb=>(f2 b hb).1,w0⟩;rintro n s3 ⟨i,σ3,H3,I3,P0,TD,w3⟩;rcases RO i n σ3 H3 w3 with⟨stop,qn⟩|⟨go,N,hN,step⟩
 ·refine wpAny_passesOwn hp (c9 (T.done X rfl rfl rfl hc i ah s3 σ3 H3 X.xe I3 (O TD) P0 stop) λr s4 ⟨hr,I4⟩=>?_);subst hr;exact wpAny_execs_nil ⟨σ3,H3,I4,qn⟩
 ·refine wpAny_passesOwn hp (c9 (T.item X rfl rfl rfl hc i ah s3 σ3 H3 X.xe I3 (O TD) P0 go) λr s4 ⟨u,hr,h4⟩=>?_);subst hr;refine wpAny_passesOwn hp (c9 h4 λ_ s5 ⟨x,H5,I5,r5,y5,RP,RQ⟩=>?_);have VN:=I5.pinned (O RQ) (T.obj _ _ RP);refine wpAny_passesOwn hp (c9 (hg _ s5 σ3 H5 x u _ VN r5 (step x H5 y5)) λ_ s6 ⟨σ6,H6,I6,q6⟩=>?_);refine wpAny_passesOwn hp (c9 (hb _ s6 σ6 H6 _ I6 q6) λf s7 q7=>?_);have again:∀ {G:St}{H7:Hp},Inv X (ah++oh fp s5.heap) G H7 s7->N G H7->∃m,m<n/\∃i U H',Inv X ah U H' s7/\tn i s7.heap/\(∀b∈fp,H' b=none)/\W i m U H':=λ{G H7} I7 n7=>by
   obtain⟨m',hm,w7⟩:=hN G H7 n7;refine⟨m',hm,i+1,G,H7,I7.unpinned,T.keep _ _ _ RP λb hb o e=>(I7.pin (b,o) (mY _ (mY _ (jJ hb e)))).1,λb hb=>?_,w7⟩;obtain⟨o,e,d⟩:=T.obj _ _ RP b hb;exact(I7.pin (b,o) (mY _ (mY _ (jJ hb e)))).2.1
  cases f with
  |next=>obtain⟨G,H7,I7,n7⟩:=q7;exact again I7 n7
  |cont=>obtain⟨G,H7,I7,n7⟩:=q7;exact again I7 n7
  |brk=>obtain⟨G,H7,I7,q7⟩:=q7;exact⟨G,H7,I7.unpinned,q7⟩
  |ret v=>obtain⟨x7,G,H7,I7,r7,q7⟩:=q7;exact⟨x7,G,H7,I7.unpinned,r7,q7⟩
end
abbrev R2:=V->V->Hp->VK->Prop
def dQ (X:Cx)(f:Value->Value->Sem Value)(r:R2):Prop :=
 ∀(ah:AO)(s:Shared)(σ:St)(H:Hp)(x y:V)(v u:Value)(Q:VK),Inv X ah σ H s->bd x v->bd y u->r x y H Q ->
  wq X (f v u) (EP X ah σ Q) X.xe s
def Oe (X:Cx)(f:Value->Sem Value)(r:V->Hp->VK->Prop):Prop :=
 ∀(ah:AO)(s:Shared)(σ:St)(H:Hp)(x:V)(v:Value)(Q:VK),Inv X ah σ H s->bd x v->r x H Q ->
  wq X (f v) (EP X ah σ Q) X.xe s
def cA (X:Cx)(f:Value)(r:List V->Hp->VK->Prop):Prop :=
 ∀(ah:AO)(s:Shared)(σ:St)(H:Hp)(xs:List V)(us:LU)(Q:VK),Inv X ah σ H s->bu xs us->r xs H Q ->
  wq X (call f us) (EP X ah σ Q) X.xe s
def Qp (r:R2)(ta tb:TE):TE:=λσ H Q=>ta σ H λx G=>tb σ G λy H2=>r x y H2 Q
def UO (r:V->Hp->VK->Prop)(ta:TE):TE:=λσ H Q=>ta σ H λx G=>r x G Q
def rI (C:Int->Int->Prop)(g:Int->Int->V):R2:=λx y H Q=>∃i j,x=.int i/\y=.int j/\C i j/\Q (g i j) H
def Hv (g:Int->Int->V):R2:=λx y H Q=>∃i j,x=.int i/\y=.int j/\Q (g i j) H
def rU (g:Int->V):V->Hp->VK->Prop:=λx H Q=>∃i,x=.int i/\Q (g i) H
section
variable {X:Cx}{a b c:Expr}{ta tb tc:TE}{pos:Pos}
def Lu (ha:PE X a ta)(hb:PE X b tb){ah:AO}{s:Shared}{σ:St}{H:Hp}{R:V->V->Hp->Prop}(I:Inv X ah σ H s)
  (h:ta σ H λx O=>tb σ O λy H2=>R x y H2) {Q:QV}{f:Value->Value->Sem Value}
  (hf:∀v u s2 x y H2,Inv X ah σ H2 s2->bd x v->bd y u->R x y H2->wq X (f v u) Q X.xe s2):
  wq X (eval a X.env) (λv G=>wq X (eval b X.env) (λu M=>wq X (f v u) Q X.xe M) X.xe G) X.xe s:=by
 refine c9 (ha ah s σ H _ I h) λv s1 ⟨x,O,T,U,q1⟩=>?_;refine c9 (hb ah s1 σ O _ T q1) λu s2 ⟨y,H2,I2,r2,q2⟩=>?_;exact hf v u s2 x y H2 I2 U r2 q2
def Of {op:Operator}{r:R2}(G:dQ X (binaryOp op) r)(ha:PE X a ta)(hb:PE X b tb):PE X (.BinOp a op b pos) (Qp r ta tb):=by
 intro ah s σ H Q I h;exact wpAny_BinOp (Lu ha hb I h λv u s2 x y H2 M O T q=>G ah s2 σ H2 x y v u Q M O T q)
def Og {op:UnaryOp}{r:V->Hp->VK->Prop}(G:Oe X (unaryOp op) r)(ha:PE X a ta):PE X (.UnaryOp op a pos) (UO r ta):=by
 intro ah s σ H Q I h;exact UnaryOp_ (c9 (ha ah s σ H _ I h) λv s1 ⟨x,M,O,T,U⟩=>G ah s1 σ M x v Q O T U)
def QS {f:Value->Value->Sem Value}{C:Int->Int->Prop}{g:Int->Int->Int}
  (rule:∀(i j:Int)(t u:Tok)(s:Shared)(Q:QV)(E:QV),C i j->Q (.int (g i j) s.toks) { s with toks:=s.toks+1 }->wq X (f (.int i t) (.int j u)) Q E s):
  dQ X f (rI C λi j=>.int (g i j)):=by
 intro ah s σ H x y v u Q I G M h;obtain⟨i,j,rfl,rfl,hc,q⟩:=h;obtain⟨t,rfl⟩:=G;obtain⟨t',rfl⟩:=M;exact rule i j t t' s _ _ hc ⟨.int (g i j),H,I.tok _,⟨_,rfl⟩,q⟩
def Lv {f:Value->Value->Sem Value}{g:Int->Int->Int}
  (rule:∀(i j:Int)(t u:Tok)(s:Shared)(Q:QV)(E:QV),Q (.int (g i j) s.toks) { s with toks:=s.toks+1 }->wq X (f (.int i t) (.int j u)) Q E s):
  dQ X f (Hv λi j=>.int (g i j)):=by
 intro ah s σ H x y v u Q I G M h;obtain⟨i,j,rfl,rfl,q⟩:=h;obtain⟨t,rfl⟩:=G;obtain⟨t',rfl⟩:=M;exact rule i j t t' s _ _ ⟨.int (g i j),H,I.tok _,⟨_,rfl⟩,q⟩
def HP {f:Value->Value->Sem Value}{g:Int->Int->Bool}
  (rule:∀(i j:Int)(t u:Tok)(s:Shared)(Q:QV)(E:QV),Q (.bool (g i j)) s->wq X (f (.int i t) (.int j u)) Q E s):
  dQ X f (Hv λi j=>.bl (g i j)):=by
 intro ah s σ H x y v u Q I G M h;obtain⟨i,j,rfl,rfl,q⟩:=h;obtain⟨t,rfl⟩:=G;obtain⟨t',rfl⟩:=M;exact rule i j t t' s _ _ ⟨.bl (g i j),H,I,rfl,q⟩
def Oh (i j:Int):Prop:=0<j/\j<1073741824
def HQ (i j:Int):Prop:=(-(2 ^ 64)<i/\i<2 ^ 64)∨(-(2 ^ 64)<j/\j<2 ^ 64)
def HQ.ok (h:HQ i j):IntMulOk i j:=by
 rcases h with⟨h1,h2⟩|⟨h1,h2⟩
 ·exact .of_left (intBits_le_64 h1 h2)
 ·exact .of_right (intBits_le_64 h1 h2)
def Lx:dQ X (binaryOp .Add) (Hv λi j=>.int (i+j)):=Lv λ_ _ _ _ _ _ _ q=>add_int q
def Ly:dQ X (binaryOp .Sub) (Hv λi j=>.int (i - j)):=Lv λ_ _ _ _ _ _ _ q=>sub_int q
def Lz:dQ X (binaryOp .Mult) (rI HQ λi j=>.int (i*j)):=QS λ_ _ _ _ _ _ _ hc q=>mul_int q hc.ok
def HR:dQ X (binaryOp .FloorDiv) (rI Oh λi j=>.int (i / j)):=QS λi j _ _ _ _ _ hc q=>by
 have h1:(0:Int)<j:=hc.1;have h2:j<1073741824:=hc.2;exact floordiv_int (by omega) (by rw[Int.fdiv_eq_ediv_of_nonneg i (by omega)];exact q) (.inl (PyProof.noPylong_small (by omega)))
def L0:dQ X (binaryOp .Mod) (rI (λ_ j=>0<j) λi j=>.int (i % j)):=QS λi j _ _ _ _ _ hc q=>by
 have h1:(0:Int)<j:=hc;exact mod_int' (by omega) (by rw[Int.fmod_eq_emod_of_nonneg i (by omega)];exact q)
def L1:dQ X (binaryOp .BitAnd) (Hv λi j=>.int (Builtin.bitAnd i j)):=Lv λ_ _ _ _ _ _ _ q=>and_int q
def UP {f:Value->Sem Value}{g:Int->Int}
  (rule:∀(i:Int)(t:Tok)(s:Shared)(Q:QV)(E:QV),Q (.int (g i) s.toks) { s with toks:=s.toks+1 }->wq X (f (.int i t)) Q E s):
  Oe X f (rU λi=>.int (g i)):=by
 intro ah s σ H x v Q I G h;obtain⟨i,rfl,q⟩:=h;obtain⟨t,rfl⟩:=G;exact rule i t s _ _ ⟨.int (g i),H,I.tok _,⟨_,rfl⟩,q⟩
def L3:Oe X (unaryOp .USub) (rU λi=>.int (-i)):=UP λ_ _ _ _ _ q=>neg_int q
def Dp:dQ X (binaryOp .Add) (λx y H Q=>∃i k,x=.int i/\y=.bl k/\Q (.int (i+b2i k)) H):=by
 intro ah s σ H x y v u Q I G M h;obtain⟨i,k,rfl,rfl,q⟩:=h;obtain⟨t,rfl⟩:=G;cases M
 exact add_int_bool ⟨.int (i+b2i k),H,I.tok _,⟨_,rfl⟩,q⟩
end
section
variable {X:Cx}{a b c:Expr}{ta tb tc:TE}{pos:Pos}
def Oi:dQ X (compareOp .Lt) (Hv λi j=>.bl (decide (i<j))):=HP λ_ _ _ _ _ _ _ q=>lt_int q
def Oj:dQ X (compareOp .LtE) (Hv λi j=>.bl (decide (i<=j))):=HP λ_ _ _ _ _ _ _ q=>le_int q
def Ol:dQ X (compareOp .Gt) (Hv λi j=>.bl (decide (j<i))):=HP λ_ _ _ _ _ _ _ q=>gt_int q
def Om:dQ X (compareOp .GtE) (Hv λi j=>.bl (decide (j<=i))):=HP λ_ _ _ _ _ _ _ q=>ge_int q
def dQ.or (h:dQ X f r)(h':dQ X f r'):dQ X f (λx y H Q=>r x y H Q∨r' x y H Q):=by
 intro ah s σ H x y v u Q I G M q;rcases q with q|q
 ·exact h ah s σ H x y v u Q I G M q
 ·exact h' ah s σ H x y v u Q I G M q
def HS (G:dQ X (compareOp op) r)(ha:PE X a ta)(hb:PE X b tb)(hm:behindInMarks op b=false):PE X (.Compare a [op] [b] pos) (Qp r ta tb):=by
 intro ah s σ H Q I h;exact wpAny_Compare1 (Lu ha hb I h λv u s2 x y H2 M O T q=>G ah s2 σ H2 x y v u Q M O T q) hm
def Kp (t:TE):TT:=λσ H Q=>t σ H λx H'=>∃k,x=.bl k/\Q k H'
def BB {op:CmpOp}{r:R2}(G:dQ X (compareOp op) r)(ha:PE X a ta)(hb:PE X b tb)(hm:behindInMarks op b=false):PT X (.Compare a [op] [b] pos) (Kp (Qp r ta tb)):=by
 intro ah s σ H Q I h;refine wpAny_isTrue_Compare1 (c9 (ha ah s σ H _ I h) λv s1 ⟨x,M,O,T,U⟩=>c9 (hb ah s1 σ M _ O U) λu s2 ⟨y,H2,I2,r2,q2⟩=>
  c9 (G ah s2 σ H2 x y v u _ I2 T r2 q2) λc s3 ⟨z,H3,I3,r3,k,e,q3⟩=>?_) hm
 subst e;cases r3
 exact wpAny_truthy_bool ⟨H3,I3,q3⟩
def A5 (r M:R2)(ta tb tc:TE):TE:=λσ H Q=>ta σ H λx O=>tb σ O λy H2=>r x y H2 λz G=>∃k,z=.bl k /\
 (if k=true then tc σ G λT U=>M y T U Q else Q (.bl false) G)
def EE {op G:CmpOp}{r O:R2}(ho:dQ X (compareOp op) r)(M:dQ X (compareOp G) O)(ha:PE X a ta)(hb:PE X b tb)(hc:PE X c tc)
  (hm:lastMarks [op,G] [b,c]=false:=by with_unfolding_all rfl):PE X (.Compare a [op,G] [b,c] pos) (A5 r O ta tb tc):=by
 intro ah s σ H Q I h;refine Compare_chain (c9 (ha ah s σ H _ I h) λv s1 ⟨x,H1,I1,r1,q1⟩=>chain_link (c9 (hb ah s1 σ H1 _ I1 q1) λu s2 ⟨y,H2,I2,T,q2⟩=>
  c9 (ho ah s2 σ H2 x y v u _ I2 r1 T q2) λd s3 ⟨z,U,I3,r3,k,e,q3⟩=>?_)) hm
 subst e;cases r3
 refine wpAny_truthy_bool ?_;cases k with
 |false=>exact ite_ff ⟨.bl false,U,I3,rfl,q3⟩
 |true=>exact ite_tt (chain_last (c9 (hc ah s3 σ U _ I3 q3) λw' s4 ⟨z',H4,I4,r4,q4⟩=>M ah s4 σ H4 y z' u w' Q I4 T r4 q4))
def EF {op G:CmpOp}{r O:R2}(ho:dQ X (compareOp op) r)(M:dQ X (compareOp G) O)(ha:PE X a ta)(hb:PE X b tb)(hc:PE X c tc)
  (hm:lastMarks [op,G] [b,c]=false:=by with_unfolding_all rfl):PT X (.Compare a [op,G] [b,c] pos) (Kp (A5 r O ta tb tc)):=by
 intro ah s σ H Q I h;refine isTrue_chain (c9 (ha ah s σ H _ I h) λv s1 ⟨x,H1,I1,r1,q1⟩=>test_link (c9 (hb ah s1 σ H1 _ I1 q1) λu s2 ⟨y,H2,I2,T,q2⟩=>
  c9 (ho ah s2 σ H2 x y v u _ I2 r1 T q2) λd s3 ⟨z,U,I3,r3,k,e,q3⟩=>?_)) hm
 subst e;cases r3
 refine wpAny_truthy_bool ?_;cases k with
 |false=>
  obtain⟨k',e',q'⟩:=q3;cases e'
  exact ite_ff ⟨U,I3,q'⟩
 |true=>
  refine ite_tt (test_last (c9 (hc ah s3 σ U _ I3 q3) λw' s4 ⟨z',H4,I4,r4,q4⟩=>c9 (M ah s4 σ H4 y z' u w' _ I4 T r4 q4) λd' s5 ⟨z2,H5,I5,r5,k2,e2,q5⟩=>?_));subst e2;cases r5
  exact wpAny_truthy_bool ⟨H5,I5,q5⟩
def qu:(sizeLine:Nat)<2 ^ 63:=by rw[sizeLine_eq];decide
def A6:dQ X (binaryOp .Add) (λx y H Q=>∃i j,x=.str i/\y=.str j/\i.length+j.length<=sizeLine/\Q (.str (i++j)) H):=by
 intro ah s σ H x y v u Q I G M h;obtain⟨i,j,rfl,rfl,hz,q⟩:=h;obtain⟨t,rfl⟩:=G;obtain⟨t',rfl⟩:=M;exact add_str (λt' tk=>⟨.str (i++j),H,I.tok _,⟨_,rfl⟩,q⟩) hz
def kg (r:bu [x] us):∃u,us=[u]/\bd x u:=by
 cases r with
 |cons G M=>cases M;exact⟨_,rfl,G⟩
def EG (r:bu [x,y] us):∃u G,us=[u,G]/\bd x u/\bd y G:=by
 cases r with
 |cons M O=>
  cases O with
  |cons T U=>cases U;exact⟨_,_,rfl,M,T⟩
def Dq (hc:X.calm=true):cA X (.builtin "max") (λxs H Q=>∃i j,xs=[.int i,.int j]/\Q (.int (if j > i then j else i)) H):=by
 intro ah s σ H xs us Q I r h;obtain⟨i,j,rfl,q⟩:=h;obtain⟨u,G,rfl,⟨t,rfl⟩,⟨t',rfl⟩⟩:=EG r;refine max_two_ints (I.ok.hd hc) λh' tk k=>⟨_,H,I.kept k,?_,q⟩;by_cases hj:j > i
 ·rw[if_pos hj,if_pos hj];exact⟨_,rfl⟩
 ·rw[if_neg hj,if_neg hj];exact⟨_,rfl⟩
end
structure Kg (h:Heap)(x dx C:Addr)(mA:Str->Option Value):Prop where
 obj:h.get? x=some (PySem.W.instObj C dx)
 ns:h.Ns1 dx mA
 ne:dx≠x
def Dr {h:Heap}{dx:Addr}{mA:SV}(n:h.Ns1 dx mA):∃od,h.get? dx=some od/\∀name,PySem.W.lookIn name od=some (mA name):=by
 obtain⟨o,es,T,M,hd,hk,_,hm⟩:=n;refine⟨o,M,λname=>?_⟩;have e:=hm name;unfold nsFind findBy at e;rw[←Array.find?_toList]at e;unfold PySem.W.lookIn;rw[hd];dsimp only;split
 ·rename_i y q;rw[q]at e;exact congrArg some e
 ·rename_i q;rw[q]at e;have a:es.toList.any (·.refKey)=false:=by
   rw[List.any_eq_false];intro y hy;obtain⟨z,t,G⟩:=hk y (Array.mem_toList_iff.mp hy);simp[DictEntry.refKey,G]
  have O:¬es.toList.any (·.refKey)=true:=by rw[a];exact uX
  rw[if_neg O];exact congrArg some e
def Kg.look (I:Kg h x dx C mA):∃od,PySem.W.InstAt h x (PySem.W.instObj C dx) C (some od)/\∀name,PySem.W.lookIn name od=some (mA name) :=
 let ⟨od,G,hl⟩:=Dr I.ns
 ⟨od,⟨I.obj,rfl,rfl,G⟩,hl⟩
section
variable {prog:Program}{w:World}{A:Around}{E:QV}{s:Shared}{K:Frag}{x dx C f:Addr}{mA:SV}{name:Str}{v:Value}
end
def pO.none_of (r:pO none o):o=none:=by
 cases o with
 |none=>rfl
 |some u=>exact(show False from r).elim
section
variable {P:Program}{w:World}{H H':Hp}{h h':Heap}{a C dx:Addr}{fs VL:List (Str×V)}
def BC (hok:lH P w H h)(e:H a=some (.ins C dx fs)):∃mA,Kg h a dx C mA/\(∀f,pO (fs.lookup f) (mA f))/\PySem.Within mA (fs.map (·.1))/\fs.length<=1000/\H dx=some (.own a):=by
 obtain⟨d,z,ne,ob,mA,n,r,q⟩:=(show bN P w H h a (.ins C dx fs)from hok a _ e);exact⟨mA,⟨ob,n,ne⟩,r,q,z,d⟩
end
structure Cls (K:Frag)(C:Addr):Prop where
 pg:PySem.W.plainGet K C Str.empty=true
 hd:PySem.W.hasDictIn K C=true
 po:PySem.W.plainOver K C=true
 sa:PySem.W.findIn K (.ref C) "__setattr__" = some (some (.builtin "object.__setattr__"))
def Cls.get {K:Frag}{C:Addr}(c:Cls K C)(f:Str):PySem.W.plainGet K C f=true:=c.pg
structure Meth (K:Frag)(C:Addr)(m:Str)(f:Addr):Prop where
 at_:PySem.W.findIn K (.ref C) m=some (some (.ref f))
 fn:PySem.W.isFn K (.ref f)=true
 kp:PySem.W.keepIn K (.ref f)=true
section
variable {X:Cx}{ah:AO}{σ:St}{H:Hp}{s:Shared}{a C dx:Addr}{fs:List (Str×V)}{f:Str}{v:V}{A:Around}{E:QV}
end
section
variable {X:Cx}{o e value:Expr}{f:Str}{pos Ho MP:Pos}{ta tv:TE}
end
section
variable {X:Cx}{ah:AO}{σ:St}{H:Hp}{s:Shared}{A:Around}{E:QV}{Q:QV}{c:Value}{b:Bool}
inductive TyOf (K:Frag)(H:Hp):V->Value->Prop where
 |non:TyOf K H .non (.type "NoneType")
 |bl (x:Bool):TyOf K H (.bl x) (.type "bool")
 |int (i:Int):TyOf K H (.int i) (.type "int")
 |str (x:Str):TyOf K H (.str x) (.type "str")
 |flt (x:UInt64):TyOf K H (.flt x) (.type "float")
 |lst {a:Addr}{xs:List V}(e:H a=some (.lst xs)):TyOf K H (.ref a) (.type "list")
 |frz {a:Addr}{o:Obj}{xs:List V}(e:H a=some (.frz o (.lst xs))):TyOf K H (.ref a) (.type "list")
 |tup {a:Addr}{xs:List V}(e:H a=some (.tup xs)):TyOf K H (.ref a) (.type "tuple")
 |dK {a:Addr}{aO:List (eQ×V)}{ob:Obj}(e:H a=some (.dK aO ob)):TyOf K H (.ref a) (.type "dict")
 |dT {a:Addr}{aO:List (List eQ×V)}(e:H a=some (.dT aO)):TyOf K H (.ref a) (.type "dict")
 |ins {a C dx:Addr}{fs:List (Str×V)}(e:H a=some (.ins C dx fs)) (cl:Cls K C) (ha:PySem.W.findIn K (.ref C) "__class__" = some (some (.builtin "object.__class__")))
   (hn:PySem.W.specialIn K (.builtin "object.__class__") "__get__" = some (some (.builtin "getset_descriptor.__get__"))) (TF:PySem.W.takesIn K (.builtin "object.__class__")=some true)
   (hm:PySem.W.mroIn K C (.type "object")=some true):TyOf K H (.ref a) (.ref C)
def hU (I:Inv X ah σ H s)(G:bd x u)(ty:TyOf X.K H x t)(e:PySem.W.kitOne X.K t c=some b)(h:∀tk,Q (.bool b) { s with toks:=tk }):
  wpAny (model X.prog X.w) A (call (.builtin "isinstance") [u,c]) Q E s:=by
 cases ty with
 |non=>cases (show u=Value.none from G);exact kia_one PySem.W.kitx_none I.kIn True.intro e (λz=>nomatch z) h
 |bl y=>cases (show u=Value.bool y from G);exact kia_one PySem.W.kitx_bool I.kIn True.intro e (λz=>nomatch z) h
 |int i=>obtain⟨t,q⟩:=(show ∃t,u=Value.int i t from G);cases q;exact kia_one PySem.W.kitx_int I.kIn True.intro e (λz=>nomatch z) h
 |str y=>obtain⟨t,q⟩:=(show ∃t,u=Value.str y t from G);cases q;exact kia_one PySem.W.kitx_str I.kIn True.intro e (λz=>nomatch z) h
 |flt y=>obtain⟨t,q⟩:=(show ∃t,u=Value.float y t from G);cases q;exact kia_one PySem.W.kitx_float I.kIn True.intro e (λz=>nomatch z) h
 |@lst a xs M=>
  cases (show u=Value.ref a from G)
  obtain⟨_,_,n,_,h1⟩:=(show bN X.prog X.w H s.heap a (.lst xs)from I.hok a _ M);exact kia_one PySem.W.kitx_list I.kIn ⟨_,h1,rfl⟩ e (λz=>nomatch z) h
 |@frz a ob xs M=>
  cases (show u=Value.ref a from G)
  obtain⟨_,_,_,n,_,h1⟩:=(show bN X.prog X.w H s.heap a (.frz ob (.lst xs))from I.hok a _ M);exact kia_one PySem.W.kitx_list I.kIn ⟨_,h1,rfl⟩ e (λz=>nomatch z) h
 |@tup a xs M=>
  cases (show u=Value.ref a from G)
  obtain⟨_,_,_,p⟩:=(show bN X.prog X.w H s.heap a (.tup xs)from I.hok a _ M);obtain⟨o,h1,h2,_⟩:=p;exact kia_one PySem.W.kitx_tuple I.kIn ⟨o,h1,h2⟩ e (λz=>nomatch z) h
 |@dK a aO ob M=>
  cases (show u=Value.ref a from G)
  obtain⟨_,_,_,vs,_,p⟩:=(show bN X.prog X.w H s.heap a (.dK aO ob)from I.hok a _ M);obtain⟨o,es,T,h1,h2,_⟩:=p;exact kia_one PySem.W.kitx_dict I.kIn ⟨o,h1,h2.1⟩ e (λz=>nomatch z) h
 |@dT a aO M=>
  cases (show u=Value.ref a from G)
  obtain⟨_,_,xs,_,o,es,T,h1,h2,_⟩:=(show bN X.prog X.w H s.heap a (.dT aO)from I.hok a _ M);exact kia_one PySem.W.kitx_dict I.kIn ⟨o,h1,h2.1⟩ e (λz=>nomatch z) h
 |@ins a C dx fs M cl ha hn TF hm=>
  cases (show u=Value.ref a from G)
  obtain⟨mA,O,_⟩:=BC I.hok M;obtain⟨od,J,_⟩:=O.look;exact kia_one (PySem.W.kitx_own (cl.get _) cl.hd ha hn TF hm) I.kIn J e (λz=>nomatch z) h
end
structure eP (k:Nat)(A:Around):Prop where
 hd:A.handled=none
 dp:A.depth+3*k+5<recursionLimit
 un:A.units+16*k+200<cLine
def eP.mono (r:eP k A)(h:j<=k):eP j A:=⟨r.hd,by have:=r.dp;omega,by have:=r.un;omega⟩
def eP.deeper (r:eP (k+1) A)(env:Env):eP k (A.deeper env) :=
 ⟨r.hd,by have:=r.dp;show A.depth+1+3*k+5<_;omega,by have:=r.un;show A.units+3+16*k+200<_;omega⟩
def eP.in1 (r:eP (k+1) A):eP k A.in1 :=
 ⟨r.hd,by have:=r.dp;show A.depth+3*k+5<_;omega,by have:=r.un;show A.units+1+16*k+200<_;omega⟩
def eP.depth (r:eP k A):A.depth<recursionLimit:=by have:=r.dp;omega
def Op:TA:=λ_ H Q=>Q [] H
def Kr (ta:TE)(G:TA):TA:=λσ H Q=>ta σ H λx M=>G σ M λxs H2=>Q (x::xs) H2
section
variable {X:Cx}{e:Expr}{es:QD}{te:TE}{t:TA}{pos:Pos}
def jf:PA X [] Op:=λ_ _ _ _ H Q I h=>Calls.spliced_nil ⟨[],H,I,.nil,h⟩
def gB (ha:PE X e te)(G:PA X es t)(hs:starEach (e::es) X.env=(false,eval e X.env)::starEach es X.env:=by rfl):PA X (e::es) (Kr te t):=by
 intro pos ah s σ H Q I h;rw[hs];show wpAny _ _ (spliced ((false,eval e X.env)::backTo pos (starEach es X.env))) _ _ s;refine Calls.spliced_cons (c9 (ha ah s σ H _ I h) λu s1 ⟨x,M,O,T,U⟩=>?_);exact c9 (G pos ah s1 σ M _ O U) λus s2 ⟨xs,H2,I2,r2,q2⟩=>⟨x::xs,H2,I2,.cons T r2,q2⟩
def Oq (t:TA):TE:=λσ H Q=>t σ H λxs G=>xs.length<=sizeLine/\∀p,G p=none->Q (.ref p) (upd G p (.tup xs))
def QU (t:TA):TE:=λσ H Q=>t σ H λxs G=>xs.length<=sizeLine/\∀p,G p=none->Q (.ref p) (upd G p (.lst xs))
def A8 {x1}(h:PA X es t):PE X (.Tuple es x1 pos) (Oq t):=by
 intro ah s σ H Q I hq;refine wpAny_Tuple_spliced (c9 (h pos ah s σ H _ I hq) λus s1 ⟨xs,G,M,r,z,q⟩=>⟨by rw[←r.length];exact z,?_⟩);have hf:G s1.heap.objs.size=none:=M.hok.fresh (vT _);refine⟨.ref s1.heap.objs.size,upd G s1.heap.objs.size (.tup xs),M.laid (t':=s1.toks) (λb u e=>vZ _ e) (vT _) ?_,rfl,q _ hf⟩;exact⟨z,us,r,⟨_,vY _ rfl,rfl,_,rfl⟩⟩
def L5 (h:PA X es t):PE X (.List es pos) (QU t):=by
 intro ah s σ H Q I hq;refine wpAny_List_spliced (c9 (h pos ah s σ H _ I hq) λus s1 ⟨xs,G,M,r,z,q⟩=>⟨by rw[←r.length];exact z,?_⟩);have hf:G s1.heap.objs.size=none:=M.hok.fresh (vT _);refine⟨.ref s1.heap.objs.size,upd G s1.heap.objs.size (.lst xs),M.laid (t':=s1.toks) (λb u e=>vZ _ e) (vT _) ?_,rfl,q _ hf⟩;exact⟨z,us,0,r,vY _ rfl⟩
end
abbrev Sp:=List V->Hp->VK->XK->Prop
abbrev Ks:=List Env->Hp->Shared->XK->QV
structure Env0 (P:Program)(w:World)(K:Frag)(mg:Str->Option Value)(base:Heap)(A:Around)(outer:List Env)(s:Shared)(H:Hp):Prop where
 frames:A.frames=some outer
 mod:Mod K mg base
 bs:∀b o,base.get? b=some o->s.heap.get? b=some o/\H b=none
 bsz:base.objs.size<=s.heap.objs.size
 funs:s.heap.FunFrames base outer
 frf:∀b∈Ey outer,H b=none
 hok:lH P w H s.heap
 bare:AllBare s.gens
def CE (outer:List Env)(P:Program)(w:World)(H:Hp)(s:Shared)(Q:VK)(u:Value)(s':Shared):Prop :=
 ∃v H',s'.os=s.os/\AllBare s'.gens/\Un (Ey outer) [] H H' s.heap s'.heap/\lH P w H' s'.heap/\bd v u/\Q v H'
def CR (CX:Ks)(outer:List Env)(P:Program)(w:World)(H:Hp)(s:Shared)(Q:VK)(E:XK)(r:Result)(s':Shared):Prop :=
 match r with
 |.ok (.ret u)=>CE outer P w H s Q u s'
 |.ok _=>False
 |.error e=>CX outer H s E e s'
structure tX (P:Program)(w:World)(K:Frag)(mg:Str->Option Value)(base:Heap)(CX:Ks)(k:Nat)(f:Addr)(fd:FuncData)(ps:List Str)(sp:Sp):Prop where
 len:∀vs H Q E,sp vs H Q E->vs.length=ps.length
 run:∀(A:Around)(outer:List Env)(s:Shared)(H:Hp)(args:Args)(us:List Value)(vs:List V)(Q:VK)(E:XK),eP k A->Env0 P w K mg base A outer s H->BindsTo s fd args (ps.zip us)->bu vs us->sp vs H Q E ->
  codeAny (model P w) A (.call (.ref f) args) (CR CX outer P w H s Q E) s
section
variable {X:Cx}{ah:AO}{σ:St}{H:Hp}{s s':Shared}
def Inv.env0 (I:Inv X ah σ H s):Env0 X.prog X.w X.K X.mg X.base X.A X.stack s H :=
 ⟨I.ok.frames,I.ok.mod,I.bs,vR I.ok.bsz I.sz,I.stack,I.stkFree,I.hok,I.bare⟩
def Inv.after (I:Inv X ah σ H s)(h:CE X.stack X.prog X.w H s Q u s'):EP X ah σ Q u s':=by
 obtain⟨v,H',os,bare,un,hok,r,q⟩:=h;obtain⟨hh,g,d,t,G⟩:=s';obtain rfl:G=s.os:=os;exact⟨v,H',I.call (h':=hh) (g':=g) (d':=d) (t':=t) (ch:=[]) un hok bare (λb z=>absurd z (by simp)),r,q⟩
end
def Ot (sp:Sp)(G:List V)(E:XK)(t:TA):TE:=λσ H Q=>t σ H λvs M=>sp (vs++G) M Q E
def oP (K:Frag)(fd:FuncData)(ps:LS)(ds:LU):Prop :=
 ∀(s:Shared)(us:LU),K.In s.heap->(us++ds).length=ps.length->BindsTo s fd ⟨us,[]⟩ (ps.zip (us++ds))
def oP.all {K:Frag}{fd:FuncData}{ps:LS}(h:∀us:LU,us.length=ps.length->bindArgs fd ⟨us,[]⟩=pure (ps.zip us)):oP K fd ps []:=λs us _ hl=>by
 rw[uQ]at hl ⊢;exact .of_eq (h us hl)
def A9 (CX:Ks)(X:Cx)(E:XK):Prop:=∀(ah:AO)(σ:St)(H:Hp)(s:Shared)(e:Value)(s':Shared),Inv X ah σ H s->CX X.stack H s E e s'->X.xe e s'
section
variable {X:Cx}{CX:Ks}{k:Nat}{f C:Addr}{fd:FuncData}{ps:LS}{sp:Sp}{MQ:List V}{ds:LU}{E:XK}{x m:Str}{p pos dJ:Pos}{e o:Expr}{es:QD}{ta:TE}{t:TA}
def L6 {ah:AO}{σ:St}{H:Hp}{s:Shared}{Q:VK}{us:LU}{vs:List V}(F:tX X.prog X.w X.K X.mg X.base CX k f fd ps sp)(M:eP k X.A)(hb:oP X.K fd ps ds)(hd:bu MQ ds)(hx:A9 CX X E)
  (I:Inv X ah σ H s) (r:bu vs us) (h:sp (vs++MQ) H Q E):wq X (call (.ref f) us) (EP X ah σ Q) X.xe s:=by
 have G:bu (vs++MQ) (us++ds):=r.append hd;have hl:(us++ds).length=ps.length:=by rw[←G.length];exact F.len _ _ _ _ h
 refine wpAny_call (codeAny_mono (F.run X.A X.stack s H ⟨us,[]⟩ (us++ds) (vs++MQ) Q E M I.env0 (hb s us I.kIn hl) G h) λr s' hq=>?_);cases r with
 |error e=>exact hx ah σ H s e s' I hq
 |ok fl=>
  cases fl with
  |ret u=>exact I.after hq
  |next=>exact False.elim hq
  |brk=>exact False.elim hq
  |cont=>exact False.elim hq
def BD (F:tX X.prog X.w X.K X.mg X.base CX k f fd ps sp)(T:eP k X.A)(U:Gl X x)(hm:X.mg x=some (.ref f))(hk:PySem.W.keepIn X.K (.ref f)=true)(hb:oP X.K fd ps ds)(hd:bu MQ ds)(hx:A9 CX X E)
  (ha:PA X (e::es) t) (G:(x == ("__debug__" : Str))=false:=by decide) (he:starEach (e::es) X.env=(false,eval e X.env)::starEach es X.env:=by rfl) (M:(backTo pos (starEach es X.env)).any (·.1)=false:=by rfl):
  PE X (.Call (.Name x p) (e::es) [] pos) (Ot sp MQ E t):=by
 intro ah s σ H Q I h;refine wpAny_Call_Name_kw (wN I U hm ?_ G);refine PySem.W.callWith_K (h₀:=X.base) I.ok.mod.kin hk (c9 (ha pos ah s σ H _ I h) λus s1 ⟨vs,H1,O,r,q⟩=>⟨O.kIn,?_⟩) he M;exact L6 F T hb hd hx O r q
end
structure FnScope (N P:List Str)(sc:Scope):Prop where
 kind:sc.kind=.function
 co:sc.isCoroutine=false
 gen:sc.isGenerator=false
 nd:N.Nodup
 pre:N.take P.length=P
 par:∀x∈P,sc.names.lookup x=some .local∨sc.names.lookup x=some .cell
 nofree:∀y∈sc.names,y.2≠.free
theorem uw {kindOf:Str->Option NameKind}{x:Str}:∀ {binds:List (Str×Value)}{m:SV},(∀v,(x,v)∉binds)->bindL kindOf binds m x=m x
 |[],_,_=>rfl
 | (n,v)::r,m,h=>by
  unfold bindL;rw[uw λw hw=>h w (mZ _ hw)];split
  ·have:x≠n:=by rintro rfl;exact h v mX
   simp[this]
  ·rfl
theorem ux {kindOf:Str->Option NameKind}{x:Str}:∀ {binds:List (Str×Value)}{m:SV},(∀v,(x,v)∉binds)->bindC kindOf binds m x=m x
 |[],_,_=>rfl
 | (n,v)::r,m,h=>by
  unfold bindC;rw[ux λw hw=>h w (mZ _ hw)];split
  ·rfl
  ·have:x≠n:=by rintro rfl;exact h v mX
   simp[this]
theorem uy {kindOf:Str->Option NameKind}{x:Str}{v:Value}:∀ {P:LS}{vs:LU}{i:Nat}{m:SV},P.Nodup->P[i]? = some x->vs[i]? = some v->kindOf x=some .local ->
  bindL kindOf (P.zip vs) m x=some v
 |[],_,_,_,_,h,_,_=>by simp at h
 |_::_,[],_,_,_,_,h,_=>by simp at h
 |p::P,w::vs,0,m,nd,h1,h2,hk=>by
  simp at h1 h2;subst h1;subst h2;show bindL kindOf ((p,w)::P.zip vs) m p=_;unfold bindL;rw[uw λv hv=>(nodup_cons.mp nd).1 (of_mem_zip hv).1,if_pos hk];simp
 |p::P,w::vs,i+1,m,nd,h1,h2,hk=>by
  show bindL kindOf ((p,w)::P.zip vs) m x=_;unfold bindL;exact uy (i:=i) (nodup_cons.mp nd).2 (by simpa using h1) (by simpa using h2) hk
theorem uz {kindOf:Str->Option NameKind}{x:Str}{v:Value}:∀ {P:LS}{vs:LU}{i:Nat}{m:SV},P.Nodup->P[i]? = some x->vs[i]? = some v->kindOf x≠some .local ->
  bindC kindOf (P.zip vs) m x=some v
 |[],_,_,_,_,h,_,_=>by simp at h
 |_::_,[],_,_,_,_,h,_=>by simp at h
 |p::P,w::vs,0,m,nd,h1,h2,hk=>by
  simp at h1 h2;subst h1;subst h2;show bindC kindOf ((p,w)::P.zip vs) m p=_;unfold bindC;rw[ux λv hv=>(nodup_cons.mp nd).1 (of_mem_zip hv).1,if_neg hk];simp
 |p::P,w::vs,i+1,m,nd,h1,h2,hk=>by
  show bindC kindOf ((p,w)::P.zip vs) m x=_;unfold bindC;exact uz (i:=i) (nodup_cons.mp nd).2 (by simpa using h1) (by simpa using h2) hk
noncomputable def kh (N:LS)(vs:List V):St:=vs.map some++List.replicate (N.length - vs.length) none
noncomputable def oi (CX:Ks)(P:Program)(w:World)(K:Frag)(mg:SV)(base:Heap)(N:LS)(qual:Str)(scope:Scope)(f:Addr)(cd:Value)(A:Around)(outer:List Env)(s:Shared)(H:Hp)(E:XK):Cx where
 prog:=P
 w:=w
 K:=K
 mg:=mg
 base:=base
 A:=A.deeper (envOfC qual scope s.heap.objs.size f cd)
 N:=N
 s₀:=s
 H₀:=H
 env:=envOfC qual scope s.heap.objs.size f cd
 outer:=outer
 stack:=envOfC qual scope s.heap.objs.size f cd::outer
 ex:=[]
 calm:=true
 fn:=λ_=>true
 pn:=[]
 xe:=λe s'=>wpAny (model P w) (A.deeper (envOfC qual scope s.heap.objs.size f cd)) (leaving (envOfC qual scope s.heap.objs.size f cd) e) (λ_ G=>CX outer H s E e G) (λM G=>CX outer H s E M G) s'
def yr {sc:Scope}{n:Nat}{x:Str}(h:sc.names.lookup x=some .cell):∃c,(cellsFrom n sc.names []).lookup x=some c:=by
 have q:=PySem.W.cellsFrom_some sc.names n [] (.inl h);exact uU q
def Ds {CX:Ks}{P:Program}{w:World}{K:Frag}{mg:SV}{base:Heap}{N ps:LS}{qual:Str}{scope:Scope}{f:Addr}{cd:Value}{A:Around}{outer:List Env}{s s1:Shared}{H:Hp}{E:XK}{us:LU}{vs:List V}
  (S:FnScope N ps scope) (hd:A.handled=none) (G:Env0 P w K mg base A outer s H) (hl:vs.length=ps.length) (r:bu vs us)
  (x:InCallC s s.heap.objs.size (bindL (envOfC qual scope s.heap.objs.size f cd).kindOf (ps.zip us) λ_=>none) (cellsFrom (s.heap.objs.size+1) scope.names []) (bindC (envOfC qual scope s.heap.objs.size f cd).kindOf (ps.zip us) λ_=>none) s1):
  Inv (oi CX P w K mg base N qual scope f cd A outer s H E) [] (kh N vs) H s1:=by
 have T:ps.length<=N.length:=by have:=congrArg List.length S.pre;rw[length_take]at this;omega
 obtain⟨h1,tk,rfl,hk⟩:=x.done;have M:∀b:Addr,b∉(oi CX P w K mg base N qual scope f cd A outer s H E).ex:=λb z=>absurd (show b∈([]:List Addr)from z) (by simp);refine⟨⟨G.mod,S.kind,rfl,rfl,vT _,λy z c h1 h2=>?_,λy hy=>?_,λy c _ h=>?_,λ_=>hd,Around.frames_deeper G.frames,.inr ⟨rfl,rfl⟩,λb z=>absurd z (M b),G.bs,G.bsz,λb _ _=>M b,λb z=>absurd z (M b),G.funs,G.frf⟩,
  rfl,G.bare,Un.kept hk,⟨_,x.toInCall.ns,λi y v h1 h2 h3=>?_⟩,λy c h=>⟨_,x.cell y c h⟩,G.hok.fresh (vT _),λy c h=>?_,λp hp=>absurd (show p∈([]:AO)from hp) (by simp),G.hok.kept hk,?_⟩
 ·exact name_of_addr x.apart (PySem.mem_of_lookup h1) (PySem.mem_of_lookup h2)
 ·have hy:scope.names.lookup y=some .cell∨scope.names.lookup y=some .free:=hy;rcases hy with hy|hy
  ·exact yr hy
  ·exact absurd rfl (S.nofree _ (PySem.mem_of_lookup hy))
 ·exact le_of_lt (x.above y c (PySem.mem_of_lookup h))
 ·have hi:i<vs.length:=by
   unfold kh at h2;by_cases hi:i<vs.length
   ·exact hi
   ·rw[getElem?_append_right (by simpa using hi)]at h2;rw[getElem?_replicate]at h2;split at h2<;>cases h2
  have ha:vs[i]? = some v:=by
   unfold kh at h2;rw[getElem?_append_left (by simpa using hi),vA]at h2;cases e:vs[i]? with
   |none=>rw[e]at h2;cases h2
   |some a=>rw[e]at h2;cases h2;rfl
  obtain⟨u,hu,U⟩:=r.get ha;have hp:ps[i]? = some y:=by
   rw[←S.pre,List.getElem?_take_of_lt (by omega)];exact h1
  have O:ps.Nodup:=by rw[←S.pre];exact S.nd.sublist (take_sublist _ _)
  refine⟨u,U,?_⟩;rcases S.par y (vL hp)with k|k
  ·exact .inl ⟨k,uy O hp hu k⟩
  ·obtain⟨c,e⟩:=yr (n:=s.heap.objs.size+1) k;refine .inr ⟨.inl k,c,e,?_⟩;have q:=x.cell y c e;rw[uz O hp hu (by show scope.names.lookup y≠_;rw[k];decide)]at q;exact q
 ·exact G.hok.fresh (le_of_lt (x.above y c (PySem.mem_of_lookup h)))
 ·unfold kh;show _=N.length;rw[uZ,vI,length_replicate];omega
def EI {CX:Ks}{P:Program}{w:World}{K:Frag}{mg:SV}{base:Heap}{k:Nat}{f:Addr}{name qual:Str}{params:Arguments}{G:List Stmt}{scope:Scope}{dV kV doc pm cS ct oc:Value}{an od:Option Addr}
  {lX:Array (Option Value)}{N ps:LS}{sp:Sp}(lk:K.lookup f=some ⟨oc,od,.func (fnOf name qual params G scope dV kV doc pm an cS ct),lX⟩) (Kh:PySem.W.codeIn K cS qual=true) (S:FnScope N ps scope)
  (len:∀vs H Q E,sp vs H Q E->vs.length=ps.length)
  (O:∀(A:Around)(outer:List Env)(s:Shared)(H:Hp)(vs:List V)(Q:VK)(E:XK),eP k (A.deeper (envOfC qual scope s.heap.objs.size f cS))->sp vs H Q E ->
   ∃t,tY (oi CX P w K mg base N qual scope f cS A outer s H E) G t/\t { nx:=λ_ H'=>Q .non H',rt:=Q } (kh N vs) H):
  tX P w K mg base CX (k+1) f (fnOf name qual params G scope dV kV doc pm an cS ct) ps sp:=by
 refine⟨len,λA outer s H args us vs Q E hr U hb r Q3=>?_⟩;have hl:=len _ _ _ _ Q3;have KX:K.In s.heap:=U.mod.kin.keeps λb o e=>(U.bs b o e).1;have VP:s.heap.NoLimit:=U.mod.nolimit.keeps λb o e=>(U.bs b o e).1;have T:∀y∈ps.zip us,scope.names.lookup y.1=some .local∨(scope.names.lookup y.1=some .cell/\((cellsFrom (s.heap.objs.size+1) scope.names []).lookup y.1).isSome=true):=λ⟨n,v⟩ hy=>by
  rcases S.par n (of_mem_zip hy).1 with q|q
  ·exact .inl q
  ·exact .inr ⟨q,PySem.W.cellsFrom_some _ _ _ (.inl q)⟩
 refine codeAny_call_function hr.depth (KX _ _ lk) rfl S.co S.gen rfl (PySem.W.codeRec_of KX Kh) (hb _ _ _ _ ?_);refine wpAny_newFunctionEnv_cells S.kind T λenv he s1 x=>?_;subst he;refine⟨VP.keeps x.toInCall.keep,codeAny_func ?_⟩;obtain⟨t,ht,hq⟩:=O A outer s H vs Q E (hr.deeper _) Q3;have I:Inv (oi CX P w K mg base N qual scope f cS A outer s H E) [] (kh N vs) H s1:=Ds S hr.hd U hl r x;refine wpAny_mono (ht [] s1 (kh N vs) H _ I hq) (λfl s' hs=>?_) λe s' hs=>hs;have jv:∀ {M:St}{H':Hp}{v:V}{u:Value},Inv (oi CX P w K mg base N qual scope f cS A outer s H E) [] M H' s'->bd v u->Q v H'->CE outer P w H s Q u s' :=
  λ{M H' v u} J rv q=>⟨v,H',J.os,J.bare,J.base,J.hok,rv,q⟩
 cases fl with
 |ret u=>
  obtain⟨v,M,H',J,rv,q⟩:=hs;exact jv J rv q
 |next=>
  obtain⟨M,H',J,q⟩:=hs;exact jv (v:=V.non) (u:=Value.none) J rfl q
 |brk=>
  obtain⟨_,_,_,q⟩:=hs;exact False.elim q
 |cont=>
  obtain⟨_,_,_,q⟩:=hs;exact False.elim q
section
variable {X:Cx}{x:Str}{p pos:Pos}{e:Expr}{es:QD}{t:TA}{id T:String}{r:List V->Hp->VK->Prop}
def Td (r:List V->Hp->VK->Prop)(t:TA):TE:=λσ H Q=>t σ H λvs G=>r vs G Q
def qw (hc:cA X (.builtin id) r)(O:Gl X x)(hm:X.mg x=none)(hv:bootBuiltins x=some (.builtin id))(ha:PA X (e::es) t)(hn:x ≠ "__name__":=by decide)(G:(x == ("__debug__" : Str))=false:=by decide)
  (he:starEach (e::es) X.env=(false,eval e X.env)::starEach es X.env:=by rfl) (M:(backTo pos (starEach es X.env)).any (·.1)=false:=by rfl):PE X (.Call (.Name x p) (e::es) [] pos) (Td r t):=by
 intro ah s σ H Q I h;refine wpAny_Call_Name_kw (je I O hm hv ?_ hn G);exact PyProof.Rows.callWith_builtin1 (c9 (ha pos ah s σ H _ I h) λus s1 ⟨vs,U,I1,r1,q1⟩=>hc ah s1 σ U vs us Q I1 r1 q1) he M
def oj (hc:cA X (.type T) r)(O:Gl X x)(hm:X.mg x=none)(hv:bootBuiltins x=some (.type T))(ha:PA X (e::es) t)(hn:x ≠ "__name__":=by decide)(G:(x == ("__debug__" : Str))=false:=by decide)
  (he:starEach (e::es) X.env=(false,eval e X.env)::starEach es X.env:=by rfl) (M:(backTo pos (starEach es X.env)).any (·.1)=false:=by rfl):PE X (.Call (.Name x p) (e::es) [] pos) (Td r t):=by
 intro ah s σ H Q I h;refine wpAny_Call_Name_kw (je I O hm hv ?_ hn G);exact PyProof.Rows.callWith_type1 (c9 (ha pos ah s σ H _ I h) λus s1 ⟨vs,U,I1,r1,q1⟩=>hc ah s1 σ U vs us Q I1 r1 q1) he M
end
end L2
namespace HT
open PySem PyProof.Rows
section
open PySem.SeqAt
open PySem.AutoSeq1 (wpAny_loadPart')
open PySem.MeetsSeq PySem.MeetsSeq2 PySem.MeetsSeq3
end
section
variable {prog:Program}{w:World}{A:Around}{E:QV}{s:Shared}
def HU (ht:IsTup s.heap t vs.toArray)(hb:IsTup s.heap b ws.toArray)(hv:vs≠[])
  (h1:ws=[]->Q (.ref t) s) (h2:ws≠[]->Q (.ref s.heap.objs.size) { s with heap:=s.heap.push { cls:=.type "tuple",data:=.seq (vs++ws).toArray } })
  (hsz:vs.length+ws.length<=sizeLine):wpAny (model prog w) A (binaryOp .Add (.ref t) (.ref b)) Q E s:=by
 obtain⟨⟨cls,dd,data,sl⟩,ho,hc,n,hd⟩:=id ht;obtain⟨⟨VQ,M,data2,O⟩,G,T,n2,U⟩:=id hb;simp only at hc hd T U;subst hc hd T U;have e:vs.toArray++ws.toArray=(vs++ws).toArray:=by simp
 by_cases hw:ws=[]
 ·exact concat_meets ⟨_,ho,rfl⟩ ⟨_,G,rfl⟩ noFill_tuple_add seq_tuple_add slot_tuple_add PySem.F.entry_tuple_add (PySem.F.args_tuple_add_2 _ _)
   (tuple_addW1 t b vs.toArray ws.toArray n n2 dd M sl O (by simpa using hv) (by simp[hw])) ⟨ho,G,h1 hw⟩
 ·refine concat_meets ⟨_,ho,rfl⟩ ⟨_,G,rfl⟩ noFill_tuple_add seq_tuple_add slot_tuple_add PySem.F.entry_tuple_add (PySem.F.args_tuple_add_2 _ _)
   (tuple_addW2 t b vs.toArray ws.toArray n n2 dd M sl O (by simpa using hv) (by simpa using hw) (by rw[vH,vH];exact hsz)) ⟨ho,G,?_⟩
  rw[e];exact h2 hw
noncomputable def dS (n d:Nat):OI->Nat
 |none=>d
 |some v=>if v<0 then (v+(n:Int)).toNat else min v.toNat n
def EJ (n d:Nat):dS n d none=d:=rfl
def HV (n d k:Nat):dS n d (some (k:Int))=min k n:=by
 show(if(k:Int)<0 then ((k:Int)+(n:Int)).toNat else min (k:Int).toNat n)=min k n;rw[if_neg (by omega),toNat_natCast]
def L7 (n d:Nat)(hd:d<=n)(o:OI):dS n d o<=n:=by
 cases o with
 |none=>exact hd
 |some v=>
  show(if v<0 then (v+(n:Int)).toNat else min v.toNat n)<=n;by_cases hv:v<0
  ·rw[if_pos hv];omega
  ·rw[if_neg hv];exact Nat.min_le_right _ _
def BE (v:Int)(n d:Nat):(if v<0 then max (v+(n:Int)) 0 else min v (n:Int))=((dS n d (some v):Nat):Int):=by
 show(if v<0 then max (v+(n:Int)) 0 else min v (n:Int))=(((if v<0 then (v+(n:Int)).toNat else min v.toNat n):Nat):Int);by_cases hv:v<0
 ·simp only[if_pos hv];omega
 ·simp only[if_neg hv];omega
def AA (lo hi:OI)(n:Nat):Builtin.Slice.sliceAdjust lo hi 1 (n:Int)=(((dS n 0 lo:Nat):Int),((dS n n hi:Nat):Int)):=by
 have h1:¬((1:Int)<0):=by omega
 unfold Builtin.Slice.sliceAdjust;simp only[h1,if_false];refine Prod.ext ?_ ?_
 ·cases lo with
  |none=>rfl
  |some v=>exact BE v n 0
 ·cases hi with
  |none=>rfl
  |some v=>exact BE v n n
def AB (i j:Nat):Builtin.Slice.slicePlaces (i:Int) (j:Int) 1=j - i:=by
 unfold Builtin.Slice.slicePlaces;have h1:(1:Int) > 0:=by omega
 simp only[h1,if_true,Int.ediv_one];split<;>omega
def qx (p:IsPart v o)(h:Q o s):wpAny (model prog w) A (Builtin.Slice.slicePartIndex v) Q E s:=by
 cases p with
 |none=>exact slicePart_none h
 |int i t=>exact slicePart_int h
def jx {sl:Addr}{vl O:Value}{lo hi:OI}{n:Nat}{Q:Int×Int×Nat->Shared->Prop}(hs:s.heap.IsSliceOf sl vl O .none)(pl:IsPart vl lo)(T:IsPart O hi)
  (h:Q (((dS n 0 lo:Nat):Int),1,dS n n hi - dS n 0 lo) s):wpAny (model prog w) A (Builtin.Slice.sliceApplied (.ref sl) (pure (n:Int))) Q E s:=by
 obtain⟨os,G,U,M⟩:=id hs;unfold Builtin.Slice.sliceApplied Builtin.Slice.sliceFields;refine wX (wX (wpAny_field G M (x:=vl) rfl (wX (wpAny_field G M (x:=O) rfl (wX (wpAny_field G M (x:=.none) rfl (wY ?_)))))));refine wX (slicePart_none ?_);show wpAny _ _ (if((1:Int) == 0)=true then _ else _) _ _ s;rw[if_neg (by decide)];refine wX (qx pl (wX (qx T (wX (wY ?_)))));show wpAny _ _ (match Builtin.Slice.sliceAdjust lo hi 1 (n:Int) with|(lo,hi)=>pure (lo,(1:Int),Builtin.Slice.slicePlaces lo hi 1)) _ _ s;rw[AA lo hi n];show wpAny _ _ (pure (((dS n 0 lo:Nat):Int),(1:Int),Builtin.Slice.slicePlaces ((dS n 0 lo:Nat):Int) ((dS n n hi:Nat):Int) 1)) _ _ s;rw[AB];exact wY h
def EK (xs:AV)(i k:Nat):((List.range k).filterMap λ(m:Nat)=>xs[((i:Int)+(m:Int)*1).toNat]?).toArray=((xs.toList.drop i).take k).toArray:=by
 have e:(λ(m:Nat)=>xs[((i:Int)+(m:Int)*1).toNat]?)=λm=>xs[i+m]?:=by
  funext m;have:((i:Int)+(m:Int)*1).toNat=i+m:=by omega
  rw[this]
 rw[e];have:=pick_run xs i k;rw[List.filterMap_map]at this;have e2:((λx=>xs[x]?) ∘ λx=>i+x)=λm=>xs[i+m]?:=rfl;rw[e2]at this;rw[this]
def mF {t sl:Addr}{items:AV}{vl vu:Value}{lo hi:OI}{Q:QV}(M:IsTup s.heap t items)(hs:s.heap.IsSliceOf sl vl vu .none)(pl:IsPart vl lo)(pu:IsPart vu hi)
  (hw:¬(dS items.size 0 lo=0/\dS items.size items.size hi=items.size))
  (h:Q (.ref s.heap.objs.size) { s with heap:=s.heap.push { cls:=.type "tuple",data:=.seq ((items.toList.drop (dS items.size 0 lo)).take (dS items.size items.size hi - dS items.size 0 lo)).toArray } })
  (hsz:items.size<=sizeLine):wpAny (model prog w) A (getItem (.ref t) (.ref sl)) Q E s:=by
 have G:sizeOk (.seq ((items.toList.drop (dS items.size 0 lo)).take (dS items.size items.size hi - dS items.size 0 lo)).toArray):=by
  show((items.toList.drop (dS items.size 0 lo)).take (dS items.size items.size hi - dS items.size 0 lo)).toArray.size<=sizeLine
  rw[vH,length_take,length_drop,vG]
  omega
 have hj:dS items.size items.size hi<=items.size:=L7 _ _ (vT _) hi
 obtain⟨os,O,T,RS⟩:=id hs
 have U:s.TypeIs (.ref sl) "slice":=⟨os,O,T⟩
 unfold getItem
 try with_reducible refine wpAny_holding ?_
 first|refine wX (wY ?_)|skip
 refine wX (wpAny_sequenceKey M.typeIs (by decide) ?_)
 refine wX (wpAny_callSpecial?_slot (name:=Str.ofString "__getitem__") M.typeIs PyProof.Rows.slot_tuple_getitem
  (wpAny_call_entry PyProof.Rows.slot_tuple_getitem M.typeIs entry_tuple_getitem ?_ (args_tuple_getitem _ _)))
 show wpAny _ _ (Builtin.Tuple.tupleItemsOf (.ref t)>>=_) _ _ s
 refine wX (tupleItemsOf_ M ?_)
 refine wX (wpAny_typeOf U ?_)
 rw[if_pos (by decide)]
 refine wX (jx hs pl pu ?_)
 have VR:¬((((dS items.size 0 lo:Nat):Int) == 0 && (1:Int) == 1 && (dS items.size items.size hi - dS items.size 0 lo) == items.size)=true):=by
  intro q
  rw[vC,vC]at q
  have q1:((dS items.size 0 lo:Nat):Int)=0:=eq_of_beq q.1.1
  have q2:dS items.size items.size hi - dS items.size 0 lo=items.size:=eq_of_beq q.2
  exact hw ⟨by omega,by omega⟩
 show wpAny _ _ (if(((dS items.size 0 lo:Nat):Int) == 0 && (1:Int) == 1 && (dS items.size items.size hi - dS items.size 0 lo) == items.size)=true then _ else _) _ _ s
 rw[if_neg VR,EK]
 first
  |exact wX (m:=Builtin.Tuple.tupleExact _) (wpAny_newObj_type (wY ⟨_,rfl,wY h⟩) G)
  |exact wX (m:=Builtin.Tuple.tupleExact _) (wpAny_newObj_type (wX (wY (wY ⟨_,rfl,wY h⟩))) G)
  |exact wX (wX (m:=Builtin.Tuple.tupleExact _) (wpAny_newObj_type (wY (wY ⟨_,rfl,wY h⟩)) G))
  |exact wX (wX (m:=Builtin.Tuple.tupleExact _) (wpAny_newObj_type (wY ⟨_,rfl,wY h⟩) G))
end
end HT
namespace L2
open PySem PySem.Spec PyProof.Rows
abbrev TO:=St->Hp->(OI->Hp->Prop)->Prop
def PO (X:Cx)(e:Option Expr)(t:TO):Prop :=
 ∀(ah:AO)(s:Shared)(σ:St)(H:Hp)(Q:OI->Hp->Prop),Inv X ah σ H s->t σ H Q ->
  wq X (evalPart e X.env) (λu s'=>∃o H',Inv X ah σ H' s'/\IsPart u o/\Q o H') X.xe s
def HW:TO:=λ_ H Q=>Q none H
def Ou (t:TE):TO:=λσ H Q=>t σ H λx G=>∃i,x=.int i/\Q (some i) G
section
variable {X:Cx}{e:Expr}{te:TE}{lo hi:Option Expr}{tl th:TO}{pos p2:Pos}
def HX:PO X none HW:=by
 intro ah s σ H Q I h;rw[evalPart_none];exact wY ⟨none,H,I,.none,h⟩
def HY (h:PE X e te):PO X (some e) (Ou te):=by
 intro ah s σ H Q I hw;rw[evalPart_some];refine c9 (h ah s σ H _ I hw) λu s1 ⟨x,G,M,O,T⟩=>?_;obtain⟨i,rfl,q⟩:=T;obtain⟨t,rfl⟩:=O;exact⟨some i,G,M,.int i t,q⟩
def Ez (X:Cx)(r:V->OI->OI->Hp->VK->Prop):Prop :=
 ∀(ah:AO)(s:Shared)(σ:St)(H:Hp)(x:V)(v vl G:Value)(lo hi:OI)(sl:Addr)(Q:VK),Inv X ah σ H s->bd x v->s.heap.IsSliceOf sl vl G .none->IsPart vl lo->IsPart G hi->r x lo hi H Q ->
  ∃T id,typeLookup (.type T) "__getitem__" = pure (some (.builtin id))/\s.TypeIs v T/\wq X (getItem v (.ref sl)) (EP X ah σ Q) X.xe s
def Ez.or (h:Ez X r)(h':Ez X r'):Ez X (λx lo hi H Q=>r x lo hi H Q∨r' x lo hi H Q):=by
 intro ah s σ H x v vl G lo hi sl Q I M hs pl O q;rcases q with q|q
 ·exact h ah s σ H x v vl G lo hi sl Q I M hs pl O q
 ·exact h' ah s σ H x v vl G lo hi sl Q I M hs pl O q
def UR (r:V->OI->OI->Hp->VK->Prop)(te:TE)(tl th:TO):TE:=λσ H Q=>te σ H λx G=>tl σ G λl H2=>th σ H2 λu M=>r x l u M Q
def EL (U:Ez X r)(he:PE X e te)(hl:PO X lo tl)(hu:PO X hi th):PE X (.Subscript e (.Slice lo hi none p2) pos) (UR r te tl th):=by
 intro ah s σ H Q I h;refine Subscript_ (c9 (he ah s σ H _ I h) λv s1 ⟨x,H1,I1,r1,q1⟩=>?_);refine wpAny_Slice (c9 (hl ah s1 σ H1 _ I1 q1) λvl s2 ⟨l,H2,I2,pl,q2⟩=>c9 (hu ah s2 σ H2 _ I2 q2) λM G ⟨u,O,I3,pu,q3⟩=>?_);rw[evalPart_none];refine wY ?_;have I4:Inv X ah σ O { G with heap:=G.heap.push { cls:=.type "slice",data:=.fields #[vl,M,.none] } }:=I3.kept (t':=G.toks) λb ob q=>vZ _ q;obtain⟨T,id,hT,ht,hg⟩:=U ah { G with heap:=G.heap.push { cls:=.type "slice",data:=.fields #[vl,M,.none] } } σ O x v vl M l u G.heap.objs.size Q I4 r1 (Heap.IsSliceOf.new ..) pl pu q3;show wq X (subscriptTail e (.Slice lo hi none p2) v (.ref G.heap.objs.size)) (EP X ah σ Q) X.xe { G with heap:=G.heap.push { cls:=.type "slice",data:=.fields #[vl,M,.none] } };exact tail_any (ops:=[.ref G.heap.objs.size,v]) ht hT hg (by with_unfolding_all rfl)
def tZ (xs:List V)(lo hi:OI):List V:=(xs.drop (HT.dS xs.length 0 lo)).take (HT.dS xs.length xs.length hi - HT.dS xs.length 0 lo)
def oQ (xs:List V)(lo hi:OI):(tZ xs lo hi).length<=xs.length:=by
 unfold tZ;rw[length_take,length_drop];omega
def QW (K:Frag):V->OI->OI->Hp->VK->Prop:=λx lo hi H Q=>∃a xs,x=.ref a/\jt K H a xs /\
 ¬(HT.dS xs.length 0 lo=0/\HT.dS xs.length xs.length hi=xs.length)/\∀p,H p=none->Q (.ref p) (upd H p (.tup (tZ xs lo hi)))
def L8:Ez X (QW X.K):=by
 intro ah s σ H x v vl U lo hi sl Q I O hs pl T h;obtain⟨a,xs,rfl,hx,hw,q⟩:=h;cases O
 obtain⟨its,r,M,hz⟩:=I.tuple hx;have G:its.toArray.size=xs.length:=by rw[vH];exact r.length.symm
 refine⟨"tuple",_,PyProof.Rows.slot_tuple_getitem.lookup,M.typeIs,?_⟩;refine HT.mF M hs pl T (by rw[G];exact hw) ?_ (by rw[G];exact hz);rw[G];refine⟨.ref s.heap.objs.size,_,I.laid (t':=s.toks) (o:=.tup (tZ xs lo hi)) (λb ob q=>vZ _ q) (vT _) ?_,rfl,q _ (I.hok.fresh (vT _))⟩;exact⟨vR (oQ xs lo hi) hz,_,(r.drop (HT.dS xs.length 0 lo)).take (HT.dS xs.length xs.length hi - HT.dS xs.length 0 lo),IsTup.new _ _⟩
def Ov (K:Frag):R2:=λx y H Q=>∃a b xs ys,x=.ref a/\y=.ref b/\jt K H a xs/\jt K H b ys/\xs≠[]/\xs.length+ys.length<=sizeLine /\
 (ys=[]->Q (.ref a) H)/\(ys≠[]->∀p,H p=none->Q (.ref p) (upd H p (.tup (xs++ys))))
def bu.nil_iff (r:bu xs us):us=[]↔xs=[]:=by
 cases r with
 |nil=>simp
 |cons _ _=>simp
def HZ:dQ X (binaryOp .Add) (Ov X.K):=by
 intro ah s σ H x y v u Q I T U h;obtain⟨a,b,xs,ys,rfl,rfl,ha,hb,hx,hz,q1,q2⟩:=h;cases T
 cases U
 obtain⟨its,M,p1,_⟩:=I.tuple ha;obtain⟨O,G,p2,_⟩:=I.tuple hb;refine HT.HU p1 p2 (λz=>hx (M.nil_iff.mp z)) (λz=>⟨.ref a,H,I,rfl,q1 (G.nil_iff.mp z)⟩) (λz=>?_) (by rw[←M.length,←G.length];exact hz);refine⟨.ref s.heap.objs.size,_,I.laid (t':=s.toks) (o:=.tup (xs++ys)) (λb ob q=>vZ _ q) (vT _) ?_,rfl,q2 (λw=>z (G.nil_iff.mpr w)) _ (I.hok.fresh (vT _))⟩;exact⟨by rw[uZ];exact hz,_,M.append G,IsTup.new _ _⟩
end
def Hw (n:Nat)(i:Int):Option Nat:=if 0<=i then (if i<n then some i.toNat else none)else if -(n:Int)<=i then some (i+n).toNat else none
def oR {α:Type}(xs:List α)(i:Int):Option α:=(Hw xs.length i).bind λj=>xs[j]?
def Ia (h:Hw n i=some j):seqIndex? i n=some j/\j<n/\-(n:Int)<=i/\i<n:=by
 unfold Hw at h;by_cases h0:0<=i
 ·rw[if_pos h0]at h;by_cases h1:i<n
  ·rw[if_pos h1]at h;have e:i.toNat=j:=vK h;exact⟨by rw[seqIndex_of h0 h1,e],by omega,by omega,h1⟩
  ·rw[if_neg h1]at h;cases h
 ·rw[if_neg h0]at h;by_cases h1 : -(n:Int)<=i
  ·rw[if_pos h1]at h;have e:(i+n).toNat=j:=vK h;exact⟨by rw[seqIndex_neg (by omega) h1,e],by omega,h1,by omega⟩
  ·rw[if_neg h1]at h;cases h
def wQ {α:Type}{xs:List α}{i:Int}{v:α}(h:oR xs i=some v):∃j,seqIndex? i xs.length=some j/\xs[j]? = some v/\j<xs.length/\-(xs.length:Int)<=i/\i<xs.length:=by
 unfold oR at h;cases e:Hw xs.length i with
 |none=>rw[e]at h;cases h
 |some j=>
  rw[e]at h;obtain⟨h1,h2,h3,h4⟩:=Ia e;exact⟨j,h1,h,h2,h3,h4⟩
def Ib {α:Type}{xs:List α}{j:Nat}{v:α}(h:xs[j]? = some v):oR xs (j:Int)=some v:=by
 have hj:j<xs.length:=(vV h).1;have e:Hw xs.length (j:Int)=some j:=by
  unfold Hw;rw[if_pos (by omega),if_pos (by omega)];simp
 unfold oR;rw[e];exact h
def qd (b:Expr):Prop:=∀o i,subscripted b false o i=operate [o,i] (getItem o i)
def EM (X:Cx)(r:R2):Prop :=
 ∀(M G:Expr)(ah:AO)(s:Shared)(σ:St)(H:Hp)(x y:V)(v u:Value)(Q:VK),Inv X ah σ H s->bd x v->bd y u->r x y H Q ->
  subscripted G false v u=operate [v,u] (getItem v u)->wq X (subscriptTail M G v u) (EP X ah σ Q) X.xe s
def L9 (X:Cx)(id:String)(r:V->List V->Hp->VK->Prop):Prop :=
 ∀(ah:AO)(s:Shared)(σ:St)(H:Hp)(x:V)(xs:List V)(v:Value)(us:LU)(Q:VK),Inv X ah σ H s->bd x v->bu xs us->r x xs H Q ->
  wq X (call (.builtin id) (v::us)) (EP X ah σ Q) X.xe s
section
variable {X:Cx}{a b:Expr}{ta tb:TE}{pos:Pos}
def EM.or (h:EM X r)(h':EM X r'):EM X (λx y H Q=>r x y H Q∨r' x y H Q):=by
 intro G M ah s σ H x y v u Q I O T q hs;rcases q with q|q
 ·exact h G M ah s σ H x y v u Q I O T q hs
 ·exact h' G M ah s σ H x y v u Q I O T q hs
def L9.or {id:String}{r G:V->List V->Hp->VK->Prop}(h:L9 X id r)(h':L9 X id G):L9 X id (λx xs H Q=>r x xs H Q∨G x xs H Q):=by
 intro ah s σ H x xs v us Q I M O q;rcases q with q|q
 ·exact h ah s σ H x xs v us Q I M O q
 ·exact h' ah s σ H x xs v us Q I M O q
def EN (G:EM X r)(ha:PE X a ta)(hb:PE X b tb)(hs:qd b):PE X (.Subscript a b pos) (Qp r ta tb):=by
 intro ah s σ H Q I h;exact Subscript_ (Lu ha hb I h λv u s2 x y H2 M O T q=>G a b ah s2 σ H2 x y v u Q M O T q (hs _ _))
def QX (K:Frag):R2:=λx y H Q=>∃p xs i v,x=.ref p/\y=.int i/\iQ K H p xs/\oR xs i=some v/\Q v H
def QY (K:Frag):R2:=λx y H Q=>∃p xs i v,x=.ref p/\y=.int i/\jt K H p xs/\oR xs i=some v/\Q v H
def QZ:R2:=λx y H Q=>∃z i c,x=.str z/\y=.int i/\z.length<=sizeLine/\oR z.cps.toList i=some c/\Q (.str ⟨#[c]⟩) H
def Ic:EM X (QX X.K):=by
 intro G M ah s σ H x y v u Q I U ry h hs;obtain⟨p,xs,i,z,rfl,rfl,hq,he,q⟩:=h;cases U
 obtain⟨t,rfl⟩:=ry;obtain⟨its,r,pl,hz⟩:=I.list hq;obtain⟨j,h1,h2,h3,h4,h5⟩:=wQ he;obtain⟨w,T,O⟩:=r.get h2;have hl:=r.length;have hn:=qu;have jv:EP X ah σ Q w s:=⟨z,H,I,O,q⟩;by_cases h0:0<=i
 ·have hj:i.toNat=j:=by
   rw[seqIndex_of h0 h5]at h1;exact vK h1
  exact item_listR pl.isList h0 (by omega) (by rw[hj];simpa using T) jv hs
 ·have hj:(i+(its.toArray.size:Int)).toNat=j:=by
   rw[seqIndex_neg (by omega) h4]at h1;rw[vH,←hl];exact vK h1
  exact subscriptTail_builtinR (x:=w) pl.isList.typeIs slot_list_getitem.lookup
   (wpAny_getItem_list_neg (Q:=λr s'=>r=w/\EP X ah σ Q r s') pl.isList (by omega) (by rw[vH]<;>omega) (by omega) (by rw[hj];simpa using T) ⟨rfl,jv⟩) hs
def EO:EM X (QY X.K):=by
 intro G M ah s σ H x y v u Q I T U h hs;obtain⟨p,xs,i,z,rfl,rfl,hq,he,q⟩:=h;cases T
 obtain⟨t,rfl⟩:=U;obtain⟨its,r,pl,hz⟩:=I.tuple hq;obtain⟨j,h1,h2,h3,h4,h5⟩:=wQ he;obtain⟨w,ew,O⟩:=r.get h2;have hl:=r.length;have hn:=qu;have jv:EP X ah σ Q w s:=⟨z,H,I,O,q⟩;exact subscriptTail_builtinR (x:=w) pl.typeIs slot_tuple_getitem.lookup
  (getItem_tuple (j:=j) (Q:=λr s'=>r=w/\EP X ah σ Q r s') pl (by omega) (by omega) (by rw[vH,←hl];exact h1) (by simpa using ew) ⟨rfl,jv⟩) hs
def EQ:EM X QZ:=by
 intro G M ah s σ H x y v u Q I O T h hs;obtain⟨z,i,c,rfl,rfl,hz,he,q⟩:=h;obtain⟨t,rfl⟩:=O;obtain⟨t',rfl⟩:=T;obtain⟨j,h1,h2,h3,h4,h5⟩:=wQ he;have hl:z.cps.toList.length=z.length:=by simp[Str.length]
 rw[hl]at h1 h4 h5;have hn:=qu;exact tail_any (typeIs_str s z t) slot_str_getitem.lookup (getItem_str (c:=c) (by
  have U:decide (i < -(2 ^ 63:Int))=false:=Pz (by omega);have e2:decide (i ≥ 2 ^ 63)=false:=Pz (by omega);rw[U,e2,Bool.or_false]) (by rw[h1];simpa using h2) ⟨.str ⟨#[c]⟩,H,I.tok _,⟨_,rfl⟩,q⟩) hs
def Inv.lst (I:Inv X ah σ H s)(h:H p=some (.lst xs)):
  ∃(its:LU)(n:Nat),bu xs its/\s.heap.get? p=some { cls:=.type "list",data:=.seq its.toArray n }/\xs.length<=sizeLine:=by
 obtain⟨z,its,n,r,e⟩:=I.hok p _ h;exact⟨its,n,r,e,z⟩
def wR (lo hi:OI)(n:Nat):(sliceBounds lo hi none n).1=((HT.dS n 0 lo:Nat):Int)/\(sliceBounds lo hi none n).2.1=((HT.dS n n hi:Nat):Int)/\(sliceBounds lo hi none n).2.2=1:=by
 refine⟨?_,?_,rfl⟩
 ·cases lo with
  |none=>simp[sliceBounds,HT.dS]
  |some i=>
   simp only[sliceBounds,HT.dS,getD_none,show(1:Int) > 0 by decide,if_true];by_cases h:i<0
   ·simp only[h,if_true]<;>omega
   ·simp only[h,if_false]<;>omega
 ·cases hi with
  |none=>simp[sliceBounds,HT.dS]
  |some i=>
   simp only[sliceBounds,HT.dS,getD_none,show(1:Int) > 0 by decide,if_true];by_cases h:i<0
   ·simp only[h,if_true]<;>omega
   ·simp only[h,if_false]<;>omega
def ua (its:LU)(lo hi:OI):slicePick its.toArray lo hi none=((its.drop (HT.dS its.length 0 lo)).take (HT.dS its.length its.length hi - HT.dS its.length 0 lo)).toArray:=by
 obtain⟨h1,h2,h3⟩:=wR lo hi its.toArray.size;unfold slicePick;rw[h1,h2,h3];simp only[sliceRange_one,pick_run,vH]<;>rfl
def Ra (K:Frag):V->OI->OI->Hp->VK->Prop:=λx lo hi H Q=>∃a xs,x=.ref a/\iQ K H a xs/\∀p,H p=none->Q (.ref p) (upd H p (.lst (tZ xs lo hi)))
def Ie:Ez X (Ra X.K):=by
 intro ah s σ H x v vl U lo hi sl Q I O hs pl T h;obtain⟨a,xs,rfl,hx,q⟩:=h;cases O
 obtain⟨its,r,M,hz⟩:=I.list hx;have G:=r.length;refine⟨"list",_,slot_list_getitem.lookup,M.isList.typeIs,?_⟩;refine wpAny_getItem_list_slice M.isList hs pl T .none (by simp) ?_ (by rw[vH]<;>omega)
 rw[ua,←G];refine⟨.ref s.heap.objs.size,_,I.laid (t':=s.toks) (o:=.lst (tZ xs lo hi)) (λb ob q=>vZ _ q) (vT _) ?_,rfl,q _ (I.hok.fresh (vT _))⟩;exact⟨vR (oQ xs lo hi) hz,_,0,(r.drop (HT.dS xs.length 0 lo)).take (HT.dS xs.length xs.length hi - HT.dS xs.length 0 lo),vY _ rfl⟩
noncomputable def lJ:V->Bool
 |.non=>true
 |.bl _=>true
 |.int _=>true
 |.str _=>true
 |_=>false
def Hx:V->V->Bool
 |.non,.non=>true
 |.bl a,.bl b=>a == b
 |.bl a,.int b=>(if a then 1 else 0) == b
 |.int a,.bl b=>a == (if b then 1 else 0)
 |.int a,.int b=>a == b
 |.str a,.str b=>a == b
 |_,_=>false
def LA (M:bd y u)(G:bd x v)(T:lJ y=true)(O:lJ x=true):SeqAt.EqAt A s u v (Hx y x):=by
 cases y with
 |non=>
  cases M
  cases x with
  |non=>cases G;exact SeqAt.EqAt.same _
  |bl b=>cases G;exact SeqAt.EqAt.none_bool b
  |int b=>obtain⟨t,rfl⟩:=G;exact SeqAt.EqAt.none_int b t
  |str b=>obtain⟨t,rfl⟩:=G;exact SeqAt.EqAt.none_str b t
  |_=>exact absurd (show false=true from O) uX
 |bl a=>
  cases M
  cases x with
  |non=>cases G;exact SeqAt.EqAt.bool_none a
  |bl b=>cases G;exact SeqAt.EqAt.bool_bool a b
  |int b=>obtain⟨t,rfl⟩:=G;exact SeqAt.EqAt.bool_int a b t
  |str b=>obtain⟨t,rfl⟩:=G;exact SeqAt.EqAt.bool_str a b t
  |_=>exact absurd (show false=true from O) uX
 |int a=>
  obtain⟨t',rfl⟩:=M;cases x with
  |non=>cases G;exact SeqAt.EqAt.int_none a t'
  |bl b=>cases G;exact SeqAt.EqAt.int_bool a t' b
  |int b=>obtain⟨t,rfl⟩:=G;exact SeqAt.EqAt.int_int a t' b t
  |str b=>obtain⟨t,rfl⟩:=G;exact SeqAt.EqAt.int_str a t' b t
  |_=>exact absurd (show false=true from O) uX
 |str a=>
  obtain⟨t',rfl⟩:=M;cases x with
  |non=>cases G;exact SeqAt.EqAt.str_none a t'
  |bl b=>cases G;exact SeqAt.EqAt.str_bool a t' b
  |int b=>obtain⟨t,rfl⟩:=G;exact SeqAt.EqAt.str_int a t' b t
  |str b=>obtain⟨t,rfl⟩:=G;exact SeqAt.EqAt.str_str a t' b t
  |_=>exact absurd (show false=true from O) uX
 |_=>exact absurd (show false=true from T) uX
def AD (x:V)(u:Value):Bool:=match u with
 |.none=>Hx .non x
 |.bool b=>Hx (.bl b) x
 |.int i _=>Hx (.int i) x
 |.str z _=>Hx (.str z) x
 |_=>false
def ER (r:bd y u)(f:lJ y=true):AD x u=Hx y x:=by
 cases y with
 |non=>cases r;rfl
 |bl b=>cases r;rfl
 |int i=>obtain⟨t,rfl⟩:=r;rfl
 |str z=>obtain⟨t,rfl⟩:=r;rfl
 |_=>exact absurd (show false=true from f) uX
theorem mG:∀ {xs:List V}{us:LU},bu xs us->xs.all lJ=true->us.any (AD x)=xs.any λy=>Hx y x
 |_,_,.nil,_=>rfl
 |y::xs,u::us,.cons r t,f=>by
  rw[all_cons,vC]at f;rw[any_cons,any_cons,ER r f.1,mG t f.2]
theorem kq (G:bd x v)(M:lJ x=true):∀ {xs:List V}{us:LU},bu xs us->xs.all lJ=true->∀u∈us,SeqAt.EqAt A s u v (AD x u)
 |_,_,.nil,_=>λu hu=>by cases hu
 |y::xs,u::us,.cons r t,f=>λO hu=>by
  rw[all_cons,vC]at f;rcases vP hu with rfl|hu
  ·rw[ER r f.1];exact LA r G f.1 M
  ·exact kq G M t f.2 O hu
noncomputable def Qq (x:V)(xs:List V):Bool:=xs.any λy=>Hx y x
def Te (K:Frag)(G:Bool):R2:=λx y H Q=>∃p xs,y=.ref p/\(iQ K H p xs∨jt K H p xs)/\lJ x=true/\xs.all lJ=true/\Q (.bl (if G then !Qq x xs else Qq x xs)) H
def Dt:dQ X (compareOp .In) (Te X.K false):=by
 intro ah s σ H x y v u Q I G O h;obtain⟨p,xs,rfl,hq,M,fs,q⟩:=h;cases O
 rcases hq with hq|hq
 ·obtain⟨its,r,pl,hz⟩:=I.list hq;refine SeqAt.in_listAt (AD x) pl.isList (λw hw=>kq G M r fs w (by simpa using hw)) ⟨.bl _,H,I,rfl,?_⟩;rw[show its.toArray.any (AD x)=its.any (AD x) by simp,mG r fs];exact q
 ·obtain⟨its,r,pl,hz⟩:=I.tuple hq;refine SeqAt.in_tupleAt (AD x) pl (λw hw=>kq G M r fs w (by simpa using hw)) ⟨.bl _,H,I,rfl,?_⟩;rw[show its.toArray.any (AD x)=its.any (AD x) by simp,mG r fs];exact q
def wS:dQ X (compareOp .NotIn) (Te X.K true):=by
 intro ah s σ H x y v u Q I G O h;obtain⟨p,xs,rfl,hq,M,fs,q⟩:=h;cases O
 rcases hq with hq|hq
 ·obtain⟨its,r,pl,hz⟩:=I.list hq;refine SeqAt.notIn_listAt (AD x) pl.isList (λw hw=>kq G M r fs w (by simpa using hw)) ⟨.bl _,H,I,rfl,?_⟩;rw[show its.toArray.any (AD x)=its.any (AD x) by simp,mG r fs];exact q
 ·obtain⟨its,r,pl,hz⟩:=I.tuple hq;refine SeqAt.notIn_tupleAt (AD x) pl (λw hw=>kq G M r fs w (by simpa using hw)) ⟨.bl _,H,I,rfl,?_⟩;rw[show its.toArray.any (AD x)=its.any (AD x) by simp,mG r fs];exact q
def wT:cA X (.builtin "len") (λxs H Q=>∃p ys,xs=[.ref p]/\(iQ X.K H p ys∨jt X.K H p ys)/\Q (.int ys.length) H):=by
 intro ah s σ H xs us Q I r h;obtain⟨p,ys,rfl,hq,q⟩:=h;obtain⟨u,rfl,O⟩:=kg r;cases O
 have hn:=qu;rcases hq with hq|hq
 ·obtain⟨its,M,pl,hz⟩:=I.list hq;have G:=M.length;exact Calls.call_len_list pl.isList (by simp only[vH]<;>omega) ⟨.int ys.length,H,I.tok _,⟨s.toks+1,by rw[vH,G]⟩,q⟩
 ·obtain⟨its,M,pl,hz⟩:=I.tuple hq;have G:=M.length;exact len_tuple pl (by simp only[vH]<;>omega) ⟨.int ys.length,H,I.tok _,⟨s.toks+1,by rw[vH,G]⟩,q⟩
def wU:cA X (.builtin "len") (λxs H Q=>∃z,xs=[.str z]/\z.length<=sizeLine/\Q (.int z.length) H):=by
 intro ah s σ H xs us Q I r h;obtain⟨z,rfl,hz,q⟩:=h;obtain⟨u,rfl,t,rfl⟩:=kg r;have hn:=qu;exact len_str (by omega) ⟨.int z.length,H,I.tok _,⟨_,rfl⟩,q⟩
def cA.or (h:cA X f r)(h':cA X f r'):cA X f (λxs H Q=>r xs H Q∨r' xs H Q):=by
 intro ah s σ H xs us Q I G q;rcases q with q|q
 ·exact h ah s σ H xs us Q I G q
 ·exact h' ah s σ H xs us Q I G q
def ub:cA X (.type "tuple") (λxs H Q=>∃p ys,xs=[.ref p]/\((iQ X.K H p ys/\∀l,H l=none->Q (.ref l) (upd H l (.tup ys)))∨(jt X.K H p ys/\Q (.ref p) H))):=by
 intro ah s σ H xs us Q I r h;obtain⟨p,ys,rfl,h⟩:=h;obtain⟨u,rfl,T⟩:=kg r;cases T
 rcases h with⟨hq,q⟩|⟨hq,q⟩
 ·obtain⟨its,G,pl,hz⟩:=I.list hq;have M:=G.length;refine call_tuple_list pl.isList (λh' kp=>?_) (by simp only[vH]<;>omega)
  have O:Inv X ah σ H { s with heap:=h' }:=I.kept (t':=s.toks) kp;have U:Inv X ah σ (upd H h'.objs.size (.tup ys)) { s with heap:=h'.push { cls:=.type "tuple",data:=.seq its.toArray } } :=
   O.laid (t':=s.toks) (λb o e=>vZ _ e) (vT _) (show bN X.prog X.w _ _ _ (.tup ys)from ⟨hz,its,G,IsTup.new _ _⟩)
  exact⟨.ref h'.objs.size,_,U,rfl,q _ (O.hok.fresh (vT _))⟩
 ·obtain⟨its,G,pl,hz⟩:=I.tuple hq;exact call_tuple_same pl ⟨.ref p,H,I,rfl,q⟩
def Tf (K:Frag)(T:String)(x:V)(H:Hp):Prop:=match x with
 |.str _=>T = "str"
 |.int _=>T = "int"
 |.ref p=>(T = "list"/\∃xs,iQ K H p xs)∨(T = "tuple"/\∃o,K.lookup p=some o/\o.cls=.type "tuple"/\o.dict=none) ∨
   (T = "dict"/\((∃aO ob,H p=some (.dK aO ob))∨∃aO,H p=some (.dT aO)))∨(T = "set"/\∃S n,H p=some (.set S n))
 |_=>False
def AE (I:Inv X ah σ H s)(r:bd x v)(ty:Tf X.K T x H):
  s.TypeIs v T/\∀a,v=.ref a->∃ob,s.heap.get? a=some ob/\ob.dict=none:=by
 cases x with
 |str z=>
  obtain⟨t,rfl⟩:=r;cases (show T = "str" from ty)
  exact⟨typeIs_str s z t,λ_ e=>nomatch e⟩
 |int i=>
  obtain⟨t,rfl⟩:=r;cases (show T = "int" from ty)
  exact⟨typeIs_int s i t,λ_ e=>nomatch e⟩
 |ref p=>
  cases r
  rcases ty with⟨rfl,xs,hq⟩|⟨rfl,o,hk,hc,hd⟩|⟨rfl,hk⟩|⟨rfl,S,n,hk⟩
  ·obtain⟨its,_,pl,_⟩:=I.list hq;refine⟨pl.isList.typeIs,λa e=>?_⟩;cases e
   obtain⟨o,n,e,c,hd,_⟩:=pl;exact⟨o,e,hd⟩
  ·refine⟨⟨o,I.kIn p o hk,hc⟩,λa e=>?_⟩;cases e
   exact⟨o,I.kIn _ o hk,hd⟩
  ·have z:∃o,s.heap.get? p=some o/\o.ExactDict:=by
    rcases hk with⟨aO,G,hk⟩|⟨aO,hk⟩
    ·obtain⟨_,_,_,_,_,o,_,_,e,ex,_⟩:=I.hok p _ hk;exact⟨o,e,ex⟩
    ·obtain⟨_,_,_,_,o,_,_,e,ex,_⟩:=I.hok p _ hk;exact⟨o,e,ex⟩
   obtain⟨o,e,ex⟩:=z;refine⟨⟨o,e,ex.1⟩,λa e2=>?_⟩;cases e2
   exact⟨o,e,ex.2.1⟩
  ·obtain⟨o,_,_,_,e,ex,_⟩:=I.hok p _ hk;refine⟨⟨o,e,ex.1⟩,λa e2=>?_⟩;cases e2
   exact⟨o,e,ex.2.1⟩
 |_=>exact False.elim ty
def US (K:Frag)(T:String)(r:V->List V->Hp->VK->Prop)(to:TE)(t:TA):TE:=λσ H Q=>to σ H λx G=>Tf K T x G/\t σ G λxs H2=>r x xs H2 Q
variable {o e:Expr}{es:QD}{to:TE}{t:TA}{name:Str}{dJ cF:Pos}{T id:String}{r:V->List V->Hp->VK->Prop}
def ES (pa:PlainAttrs T)(slot:Slot T name id)(VS:typeOf (.builtin id)=pure (.type "method_descriptor"))(hm:L9 X id r)(ho:PE X o to)(ha:PA X (e::es) t)
  (M:attributeBase o name X.env (eval o X.env)=eval o X.env:=by rfl)
  (U:((backTo cF (starEach (e::es) X.env)).all (λx=>!x.1) && (backToKw cF (keywordEach [] X.env)).all (λx=>x.1.isSome)
   && decide ((e::es).length+([]:List Keyword).length+(if([]:List Keyword).isEmpty then 0 else 1)<30))=true:=by rfl)
  (O:(dJ.endLine == cF.line)=true:=by rfl) (hs:starEach (e::es) X.env=(false,eval e X.env)::starEach es X.env:=by rfl) (G:(backTo cF (starEach es X.env)).any (·.1)=false:=by rfl):
  PE X (.Call (.Attribute o name dJ) (e::es) [] cF) (US X.K T r to t):=by
 intro ah s σ H Q I h;refine wpAny_Call_method_late M U O rfl (c9 (ho ah s σ H _ I h) λv s1 ⟨x,H1,I1,r1,ty,q1⟩=>?_);obtain⟨h1,h2⟩:=AE I1 r1 ty;refine⟨T,id,pa,slot,VS,h1,h2,?_⟩;have hA:=ha cF ah s1 σ H1 _ I1 q1;rw[hs]at hA ⊢;refine Calls.callWith_builtin (by show(false || (backTo cF (starEach es X.env)).any (·.1))=false;rw[G]<;>rfl) (Calls.evalArgs_plain ?_)
 exact c9 hA λus s2 ⟨vs,H2,I2,r2,q2⟩=>hm ah s2 σ H2 x vs v us Q I2 r1 r2 q2
/- xs.append(e),list.index on a module's tuple .. are L9 facts of 06m -/
end
def Tg (X:Cx)(id:String)(r:V->List V->Hp->VK->Prop):Prop :=
 ∀(ah:AO)(s:Shared)(σ:St)(H:Hp)(x:V)(xs:List V)(v:Value)(us:LU)(Q:VK),Inv X ah σ H s->bd x v->bu xs us->r x xs H Q ->
  wq X (call (.builtin id) (v::us)) (EP X ah σ Q) X.xe s
theorem bu.one:∀ {x:V}{us:LU},bu [x] us->∃u,us=[u]/\bd x u
 |_,_,.cons r .nil=>⟨_,rfl,r⟩
theorem bu.two:∀ {x y:V}{us:LU},bu [x,y] us->∃u v,us=[u,v]/\bd x u/\bd y v
 |_,_,_,.cons r (.cons q .nil)=>⟨_,_,rfl,r,q⟩
theorem bu.zero:∀ {us:LU},bu [] us->us=[]
 |_,.nil=>rfl
section
variable {X:Cx}{ah:AO}{σ:St}{H:Hp}{s:Shared}{l b:Addr}{xs ys zs:List V}
def Inv.lset {its its':LU}{n:Nat}{f:AV->AV}{t':Nat}(I:Inv X ah σ H s)(G:H l=some (.lst xs))
  (e:s.heap.get? l=some { cls:=.type "list",data:=.seq its.toArray n }) (hf:f its.toArray=its'.toArray) (hv:bu ys its') (hz:ys.length<=sizeLine):
  Inv X ah σ (upd H l (.lst ys)) { s with heap:=s.heap.update l (Obj.mapSeq f),toks:=t' }:=by
 have q:=PySem.IsL.update e f;rw[hf]at q;refine I.write (x:=l) (e:=l) (by rw[G];exact trivial) (.inl rfl) (λM u hb hu=>(Heap.get?_update_other s.heap (Obj.mapSeq f) (Ne.symm hb)).trans hu) ⟨_,q⟩ ?_;exact⟨hz,its',_,hv,q⟩
def Inv.lnew (I:Inv X ah σ H s)(hv:bu ys its)(hz:ys.length<=sizeLine):
  Inv X ah σ (upd H s.heap.objs.size (.lst ys)) { s with heap:=s.heap.push { cls:=.type "list",data:=.seq its.toArray },toks:=t' } :=
 I.laid (λ_ _ q=>vZ _ q) (vT _) ⟨hz,its,0,hv,vY _ rfl⟩
def Inv.fresh (I:Inv X ah σ H s):H s.heap.objs.size=none:=I.hok.fresh (vT _)
def Inv.lstM (I:Inv X ah σ H s)(G:H l=some (.lst xs)):xs.length<=sizeLine/\∃(its:LU)(n:Nat),bu xs its/\xs.length=its.length/\s.heap.get? l=some { cls:=.type "list",data:=.seq its.toArray n }:=by
 obtain⟨z,its,n,r,e⟩:=I.hok l _ G;exact⟨z,its,n,r,r.length,e⟩
def ET (h:n<=sizeLine):Builtin.List.listTooLong n=false:=by
 unfold Builtin.List.listTooLong;exact Pz (by omega)
end
section
variable {X:Cx}
def BF:V->List V->Hp->VK->Prop:=λx vs H Q=>∃l xs y,x=.ref l/\vs=[y]/\H l=some (.lst xs)/\xs.length<sizeLine/\Q .non (upd H l (.lst (xs++[y])))
def u0:Tg X "list.append" BF:=by
 intro ah s σ H x vs v us Q I M O h;obtain⟨l,xs,y,rfl,rfl,G,hz,q⟩:=h;cases M
 obtain⟨u,rfl,ru⟩:=O.one;obtain⟨z,its,n,r,hl,e⟩:=I.lstM G;refine call_meets F.slot_list_append ⟨_,e,rfl⟩ F.entry_list_append (F.args_list_append_2 _ _) (PySem.list_append l its.toArray n u (by rw[vH];omega)) ⟨e,?_⟩;refine⟨.non,_,I.lset (its':=its++[u]) G e (by simp) (r.append (.cons ru .nil)) ?_,rfl,q⟩;rw[uZ,length_singleton];omega
def Ig:V->List V->Hp->VK->Prop:=λx vs H Q=>∃l b xs zs,x=.ref l/\vs=[.ref b]/\H l=some (.lst xs)/\H b=some (.lst zs)/\xs.length+zs.length<=sizeLine/\Q .non (upd H l (.lst (xs++zs)))
def Du:Tg X "list.extend" Ig:=by
 intro ah s σ H x vs v us Q I T U h;obtain⟨l,b,xs,zs,rfl,rfl,O,hB,hz,q⟩:=h;cases T
 obtain⟨u,rfl,ru⟩:=U.one;cases ru
 obtain⟨z,its,n,r,hl,e⟩:=I.lstM O;obtain⟨z2,G,n2,r2,NF,e2⟩:=I.lstM hB;have hsz:its.toArray.size+G.toArray.size<=sizeLine:=by rw[vH,vH];omega
 have M:¬(!its.toArray.isEmpty && Builtin.List.listTooLong (its.toArray.size+G.toArray.size))=true:=by
  rw[ET hsz,Bool.and_false];exact uX
 refine call_meets F.slot_list_extend ⟨_,e,rfl⟩ F.entry_list_extend (F.args_list_extend_2 _ _)
  (AutoSeq1.list_extend_list_list_0 l its.toArray n b G.toArray n2 M (by rw[vH];omega) (by omega)) ⟨e,e2,?_⟩
 refine⟨.non,_,I.lset (its':=its++G) O e (by simp) (r.append r2) ?_,rfl,q⟩;rw[uZ];omega
end
end L2
namespace Att
open PySem PySem.W PySem.Calls PyProof.Rows
def pQ:∀(ns:LI)(vs:LU),WellAll P h vs (ns.map WData.int)->IntsAre vs ns:=by
 intro ns;induction ns with
 |nil=>
  intro vs w;rw[map_nil]at w;cases w
  exact .nil
 |cons n ns G=>
  intro vs w;rw[uY]at w;cases w with
  |cons a b=>
   cases a
   exact .cons _ _ (G _ b)
def Dv {l:OpenLaw}{n:Nat}(hn:l.most=some n){P:Params}{h:Heap}{args:List WData}{vals:LU}
  (G:l.row.toRowW.claim.pre args=true) (T:WellAll P h vals args):
  ∃a vs ns,vals=[Value.ref a]/\args=[WData.list (ns.map WData.int)]/\h.get? a=some { cls:=.type "list",data:=.seq vs.toArray }/\IntsAre vs ns/\ns.length<=n:=by
 have U:WShape.hasAll [] args [.list .int]=true:=(pre_splitW G).1;have hc:l.pre.holds [] { args:=args }=true:=(pre_splitW G).2;obtain⟨d,r,rfl,h1,h2⟩:=hasAllW_cons U;obtain rfl:=hasAllW_nil h2;obtain⟨xs,rfl,h3⟩:=hasW_list h1;obtain⟨ns,rfl⟩:=items_int h3;have M:ns.length<=n:=by
  unfold OpenLaw.pre at hc;have h4:(WTm.not (.lt (.lit (.int (n:Int))) (.len (.arg 0)))).holds [] { args:=[.list (ns.map .int)] }=true:=by
   have h4:=(holds_andW hc).1;rw[hn]at h4;exact h4
  have h5:=condW_of h4 (w_not (w_lt w_lit (w_len_list (w_arg rfl))));rw[vI]at h5;refine Nat.le_of_not_lt λq=>?_;have q':(n:Int)<((ns.length:Nat):Int):=by omega
  first
   | (rw[Au q']at h5;exact absurd h5 (by decide))
   | (simp at h5;omega)
 cases T with
 |cons w1 w2=>
  cases w2
  cases w1 with
  |list ho O=>exact⟨_,_,ns,rfl,rfl,ho,pQ ns _ O,M⟩
def Dx (l:OpenLaw)(args:List WData):l.row.toRowW.claim.post args (.bool true) args=true :=
 postW_of (r:=l.row.toRowW) (X:=(true == true))
  (show WShape.has [] (.bool true) .bool=true by first|rfl|decide|simp[WShape.has,WShape.arms,WShape.armsAll])
  (show(WTm.eq .res (.lit (.bool true))).value [] { args:=args,res:=some (.bool true),after:=args }=some (.bool (true == true))from w_eq_bool (w_res rfl) w_lit) rfl
def yt {l:OpenLaw}{n:Nat}{q:Program}{O:LS}{XP:SV->Heap->Prop}{YP:World->Heap->Prop}{d:DefRec}
  (hn:l.most=some n) (RT:d.params.defaults=[])
  (call:∀(w:World)(s₀ M:Shared)(mg mb:SV)(fa:Addr)(o:Obj)(pm cd doc:Value)(a:Addr)(vs:LU)(ns:LI),
   Ground q O [] XP w s₀ mg mb M.heap->YP w M.heap ->
   M.heap.get? fa=some o->o.data=.func (docDef d.name d.params d.body d.scope pm cd doc)->M.heap.CodeRec cd d.name->mg d.name=some (.ref fa) ->
   M.heap.get? a=some { cls:=.type "list",data:=.seq vs.toArray }->IntsAre vs ns->ns.length<=n->M.gens=#[] ->
   codeAny (model l.prog w) callerA (.call (.ref fa) ⟨[.ref a],[]⟩) (λr s'=>r=.ok (.ret (.bool true))/\OldK M.heap s'.heap/\s'.os=M.os/\AllBare s'.gens) M):
  WalkO q O XP YP l.row.toRowW d [] (λf vs=>PySem.call f vs):=by
 intro w s₀ M mg mb G Y fa o pm cd doc dV kV ho hd Kh hD hmg hg args vals as U hlay hrd hwl hlo;obtain rfl:dV=.none:=Dflts.none hD RT;obtain rfl:kV=.none:=Dflts.noKw hD;obtain⟨a,vs,ns,rfl,rfl,MT,T,lq⟩:=Dv hn U hwl;refine enter_call (codeAny_mono (call w s₀ M mg mb fa o pm cd doc a vs ns G Y ho (fd_plain hd) Kh hmg MT T lq hg) λr s' hq=>?_);obtain⟨rfl,h2,h3,h4⟩:=hq;exact⟨.inl ⟨.bool true,.bool true,[],rfl,λ_=>rfl,.bool true,Dx l _,λ_=>⟨List.Pairwise.nil,λ_ hm=>(nomatch hm)⟩⟩,h2,h3,h4⟩
section
variable {prog:Program}{w:World}{A:Around}{E:QV}{s:Shared}{K:Frag}
end
end Att
namespace L2
open PySem PySem.Spec PyProof.Rows
theorem jy:∀ {vs:LU}{ns:LI},IntsAre vs ns->bu (ns.map V.int) vs
 |_,_,.nil=>.nil
 |_,_,.cons n t h=>.cons ⟨t,rfl⟩ (jy h)
noncomputable def dL (s:Stmt):Arguments:=match s with
 |.FunctionDef _ a _ _ _ _ _ _ _ _=>a
 |_=>{ posonlyargs:=[],args:=[],vararg:=none,kwonlyargs:=[],kw_defaults:=[],kwarg:=none,defaults:=[] }
noncomputable def bZ (s:Stmt):List Stmt:=match s with
 |.FunctionDef _ _ b _ _ _ _ _ _ _=>b
 |_=>[]
noncomputable def aK (s:Stmt):Scope:=match s with
 |.FunctionDef _ _ _ _ _ _ sc _ _ _=>sc
 |_=>{ kind:=.function,names:=[],isGenerator:=false,isCoroutine:=false }
abbrev yh:Ks:=λ_ _ _ _ _ _=>False
abbrev E0:XK:=λ_ _ _=>False
def Kt:A9 yh X E0:=λ_ _ _ _ _ _ _ h=>h.elim
structure MU (K:Frag)(x qual:Str)(st:Stmt)(f:Addr)(fd:FuncData):Prop where
 ex:∃(oc:Value)(od:Option Addr)(kV doc pm:Value)(an:Option Addr)(cS ct:Value)(lX:Array (Option Value)),
  fd=fnOf x qual (dL st) (bZ st) (aK st) .none kV doc pm an cS ct/\K.lookup f=some ⟨oc,od,.func fd,lX⟩/\PySem.W.codeIn K cS qual=true
 kp:PySem.W.keepIn K (.ref f)=true
section
variable {P:Program}{w:World}{K:Frag}{mg:SV}{base:Heap}
def MU.ok {x qual:Str}{st:Stmt}{f:Addr}{fd:FuncData}{N ps:LS}{k:Nat}{sp:Sp}(F:MU K x qual st f fd)(S:FnScope N ps (aK st))(len:∀vs H Q E,sp vs H Q E->vs.length=ps.length)
  (G:∀(cS:Value)(A:Around)(outer:List Env)(s:Shared)(H:Hp)(vs:List V)(Q:VK)(E:XK),eP k (A.deeper (envOfC qual (aK st) s.heap.objs.size f cS))->sp vs H Q E ->
   ∃t,tY (oi yh P w K mg base N qual (aK st) f cS A outer s H E).nox (bZ st) t/\t { nx:=λ_ H'=>Q .non H',rt:=Q } (kh N vs) H):tX P w K mg base yh (k+1) f fd ps sp:=by
 obtain⟨oc,od,kV,doc,pm,an,cS,ct,lX,rfl,T,M⟩:=F.ex;refine EI T M S len λA outer s H vs Q E U O=>?_;obtain⟨t,h,q⟩:=G cS A outer s H vs Q E U O;exact⟨t,h.nox,q⟩
def MU.binds {x qual:Str}{st:Stmt}{f:Addr}{fd:FuncData}{ps:LS}(F:MU K x qual st f fd)
  (h:∀(kV doc pm:Value)(an:Option Addr)(cS ct:Value)(us:LU),us.length=ps.length->bindArgs (fnOf x qual (dL st) (bZ st) (aK st) .none kV doc pm an cS ct) ⟨us,[]⟩=pure (ps.zip us)):oP K fd ps []:=by
 obtain⟨oc,od,kV,doc,pm,an,cS,ct,lX,rfl,M,G⟩:=F.ex;exact .all (h kV doc pm an cS ct)
def LB {x qual:Str}{st:Stmt}{f:Addr}{oc:Value}{od an:Option Addr}{lX:Array (Option Value)}{kV doc pm cS ct:Value}(l:K.lookup f=some ⟨oc,od,.func (fnOf x qual (dL st) (bZ st) (aK st) .none kV doc pm an cS ct),lX⟩)
  (c:PySem.W.codeIn K cS qual=true) (k:PySem.W.keepIn K (.ref f)=true):MU K x qual st f (fnOf x qual (dL st) (bZ st) (aK st) .none kV doc pm an cS ct):=⟨⟨oc,od,kV,doc,pm,an,cS,ct,lX,rfl,l,c⟩,k⟩
end
def bc (H H':Hp):Prop:=∀b o,H b=some o->H' b=some o
def bc.refl (H:Hp):bc H H:=λ_ _ h=>h
def bc.trans (a:bc H H1)(b:bc H1 H2):bc H H2:=λc o h=>b c o (a c o h)
def bc.free (e:bc H H')(h:H' l=Option.none):H l=Option.none:=by
 cases q:H l with
 |none=>rfl
 |some o=>
  rw[e l o q]at h;cases h
def bc.seq {K:Frag}{H H':Hp}{a:Addr}{xs:List V}(e:bc H H')(h:iQ K H a xs):iQ K H' a xs:=by
 rcases h with (h|⟨o,h⟩)|h
 ·exact .inl (.inl (e _ _ h))
 ·exact .inl (.inr ⟨o,e _ _ h⟩)
 ·exact .inr h
section
variable {κ:Type}[DecidableEq κ]
noncomputable def kx (aO:List (κ×V))(k:κ):Option V:=(aO.find? λkv=>decide (kv.1=k)).map (·.2)
def mH (aO:List (κ×V))(k:κ)(v:V):List (κ×V) :=
 if(aO.any λkv=>decide (kv.1=k))=true then aO.map (λkv=>if kv.1=k then (kv.1,v)else kv)else aO++[(k,v)]
def mI {p:κ×V}{r:List (κ×V)}{k:κ}(e:p.1=k):kx (p::r) k=some p.2:=by simp[kx,find?_cons,e]
def mJ {p:κ×V}{r:List (κ×V)}{k:κ}(e:¬p.1=k):kx (p::r) k=kx r k:=by simp[kx,find?_cons,e]
theorem yu (k:κ):∀aO:List (κ×V),(aO.any λkv=>decide (kv.1=k))=(kx aO k).isSome
 |[]=>rfl
 |p::r=>by
  rw[any_cons];by_cases e:p.1=k
  ·simp only[mI e,Au e,Bool.true_or,Option.isSome_some]
  ·rw[mJ e,Pz e,Bool.false_or];exact yu k r
def ky (aO:List (κ×V))(k:κ)(v:V):(mH aO k v).length<=aO.length+1:=by
 unfold mH;split
 ·rw[vI];omega
 ·rw[uZ,vE,length_nil];omega
def pO.isSome_eq (r:pO o u):o.isSome=u.isSome:=by
 cases o with
 |none=>cases u with
  |none=>rfl
  |some _=>exact(show False from r).elim
 |some _=>cases u with
  |none=>exact(show False from r).elim
  |some _=>rfl
def pO.getD (r:pO o u)(G:bd d d'):bd (o.getD d) (u.getD d'):=by
 cases o with
 |none=>cases u with
  |none=>exact G
  |some _=>exact(show False from r).elim
 |some _=>cases u with
  |none=>exact(show False from r).elim
  |some _=>exact r
def KV.val {aO:List (κ×V)}{vs:List (κ×Value)}(r:KV aO vs)(k:κ):pO (kx aO k) (valueAt vs k):=by
 unfold KV at r;induction r with
 |nil=>exact True.intro
 |@cons p q ps G h t O=>
  obtain⟨h1,h2⟩:=h;by_cases e:p.1=k
  ·have M:q.1=k:=h1.symm.trans e;have b:valueAt (q::G) k=some q.2:=by simp[valueAt,find?_cons,M]
   rw[mI e,b];exact h2
  ·have M:¬q.1=k:=λz=>e (h1.trans z);have b:valueAt (q::G) k=valueAt G k:=by simp[valueAt,find?_cons,M]
   rw[mJ e,b];exact O
def KV.any (r:KV aO vs)(k:κ):(aO.any λkv=>decide (kv.1=k))=vs.any λkv=>decide (kv.1=k):=by
 unfold KV at r;induction r with
 |nil=>rfl
 |cons h t G=>rw[any_cons,any_cons,G,h.1]
def KV.repl (r:KV aO vs)(k:κ)(G:bd y u):
  KV (aO.map λkv=>if kv.1=k then (kv.1,y)else kv) (vs.map λkv=>if kv.1=k then (kv.1,u)else kv):=by
 unfold KV at r ⊢;induction r with
 |nil=>exact .nil
 |@cons p q ps O h t M=>
  rw[uY,uY];refine .cons ?_ M;obtain⟨h1,h2⟩:=h;by_cases e:p.1=k
  ·rw[if_pos e,if_pos (h1.symm.trans e)];exact⟨h1,G⟩
  ·rw[if_neg e,if_neg (λz=>e (h1.trans z))];exact⟨h1,h2⟩
def KV.put (r:KV aO vs)(k:κ)(G:bd y u):KV (mH aO k y) (stored vs k u):=by
 unfold mH stored;rw[r.any k];by_cases e:(vs.any λkv=>decide (kv.1=k))=true
 ·rw[if_pos e,if_pos e];exact r.repl k G
 ·rw[if_neg e,if_neg e];exact Paired.snoc r ⟨rfl,G⟩
def KV.length (r:KV aO vs):aO.length=vs.length:=Paired.length r
end
def yv (r:bd (kV k) u):(cw P w).is k u=true:=by
 cases k with
 |inl i=>obtain⟨t,e⟩:=(show ∃t,u=Value.int i t from r);subst e;exact yk P w i t
 |inr x=>obtain⟨t,e⟩:=(show ∃t,u=Value.str x t from r);subst e;exact ym P w x t
theorem uA:∀ {ks:List eQ}{us:LU},bu (ks.map kV) us->ItemsAre (cw P w) ks us
 |[],_,r=>by rw[map_nil]at r;cases r;exact .nil
 |k::ks,_,r=>by
  rw[uY]at r;cases r with
  |cons h t=>exact .cons (yv h) (uA t)
abbrev KT (H:Hp):List (List eQ×V)->List (List eQ×Addr×Value)->Prop:=Paired λp q=>p.1=q.1/\H q.2.1=some (.tup (p.1.map kV))/\bd p.2 q.2.2
def KT.val {H:Hp}{aO:List (List eQ×V)}{xs:List (List eQ×Addr×Value)}(r:KT H aO xs)(k:List eQ):pO (kx aO k) ((atKey xs k).map (·.2)):=by
 induction r with
 |nil=>exact True.intro
 |@cons p q ps G h t O=>
  obtain⟨h1,_,h2⟩:=h;by_cases e:p.1=k
  ·have M:q.1=k:=h1.symm.trans e;have b:atKey (q::G) k=some q.2:=by simp[atKey,find?_cons,M]
   rw[mI e,b];exact h2
  ·have M:¬q.1=k:=λz=>e (h1.trans z);have b:atKey (q::G) k=atKey G k:=by simp[atKey,find?_cons,M]
   rw[mJ e,b];exact O
def KT.repl (r:KT H aO xs)(k:List eQ)(G:bd y u):
  KT H (aO.map λkv=>if kv.1=k then (kv.1,y)else kv) (xs.map (putAt k u)):=by
 induction r with
 |nil=>exact .nil
 |@cons p q ps O h t M=>
  rw[uY,uY];refine .cons ?_ M;obtain⟨h1,h2,h3⟩:=h;unfold putAt;by_cases e:p.1=k
  ·rw[if_pos e,if_pos (h1.symm.trans e)];exact⟨h1,h2,G⟩
  ·rw[if_neg e,if_neg (λz=>e (h1.trans z))];exact⟨h1,h2,h3⟩
def KT.put (r:KT H aO xs)(k:List eQ)(hb:H b=some (.tup (k.map kV)))(G:bd y u):
  KT H (mH aO k y) (storedH xs k b u):=by
 have e:(aO.any λkv=>decide (kv.1=k))=(atKey xs k).isSome:=by
  rw[yu,(r.val k).isSome_eq,isSome_map]
 unfold mH storedH;rw[e];by_cases q:(atKey xs k).isSome=true
 ·rw[if_pos q,if_pos q];exact r.repl k G
 ·rw[if_neg q,if_neg q];exact Paired.snoc r ⟨rfl,hb,G⟩
def KT.keeps (r:KT H aO xs)(G:∀b ys,H b=some (.tup ys)->H' b=some (.tup ys)):KT H' aO xs :=
 Paired.mapP r λ_ _ z=>⟨z.1,G _ _ z.2.1,z.2.2⟩
section
variable {P:Program}{w:World}{H:Hp}{h:Heap}{a:Addr}
def Ku (ok:lH P w H h)(e:Rd H a u):bN P w H h a u:=e.ok ok
def AF (ok:lH P w H h)(e:H a=some (.dK aO ob)):h.get? a=some ob:=And.left (show bN P w H h a (.dK aO ob)from ok a _ e)
def BG (ok:lH P w H h)(e:Rd H a (.dK aO ob)):aO.length<=sizeLine/\(a == sysModules)=false/\∃vs,KV aO vs/\h.DictOf (cw P w) a vs :=
 And.right (show bN P w H h a (.dK aO ob)from Ku ok e)
def qy (ok:lH P w H h)(e:H a=some (.dK aO ob)):aO.length<=sizeLine/\(a == sysModules)=false/\∃vs,KV aO vs/\h.DictOf (cw P w) a vs:=BG ok (.inl e)
def wV (ok:lH P w H h)(e:H a=some (.tup (ks.map kV))):(tupleKind (cw P w)).is h ks a:=by
 obtain⟨_,its,r,o,h1,h2,n,h3⟩:=(show bN P w H h a (.tup (ks.map kV))from ok a _ e);exact⟨o,its.toArray,n,h1,h2,h3,by simpa using uA r⟩
def BH (ok:lH P w H h)(e:Rd H a (.dT aO)):aO.length<=sizeLine/\(a == sysModules)=false /\
  ∃xs,KT H aO xs/\h.DictOfH (tupleKind (cw P w)) a xs:=by
 obtain⟨z,y,xs,r,o,es,G,h1,h2,h3,h4,h5⟩:=(show bN P w H h a (.dT aO)from Ku ok e);refine⟨z,y,xs,r,o,es,G,h1,h2,h3,h4,λx hx=>?_,h5⟩;have all:∀ {l:List (List eQ×V)}{m:List (List eQ×Addr×Value)},KT H l m->∀x∈m,(tupleKind (cw P w)).is h x.1 x.2.1:=by
  intro l m q;induction q with
  |nil=>intro x hx;exact nomatch hx
  |@cons p q ps O hq t M=>
   intro x hx;rcases vP hx with e|hx
   ·subst e;exact wV ok (by rw[←hq.1];exact hq.2.1)
   ·exact M x hx
 exact all r x hx
def Ox (ok:lH P w H h)(e:H a=some (.dT aO)):aO.length<=sizeLine/\(a == sysModules)=false /\
  ∃xs,KT H aO xs/\h.DictOfH (tupleKind (cw P w)) a xs:=BH ok (.inl e)
end
def Dy (H:Hp)(a:Addr)(y:V)(r:Option V):Prop :=
 (∃aO k ob,Rd H a (.dK aO ob)/\y=kV k/\r=kx aO k)∨∃aO k b,Rd H a (.dT aO)/\y=.ref b/\H b=some (.tup (k.map kV))/\r=kx aO k
def Oy (H:Hp)(a:Addr)(y v:V)(Q:Hp->Prop):Prop :=
 (∃aO k ob,H a=some (.dK aO ob)/\y=kV k/\aO.length<sizeLine/\∀G,Q (upd H a (.dK (mH aO k v) G))) ∨
 ∃aO k b,H a=some (.dT aO)/\y=.ref b/\H b=some (.tup (k.map kV))/\aO.length<sizeLine/\Q (upd H a (.dT (mH aO k v)))
def Dy.t (e:H a=some (.dT aO))(G:H b=some (.tup (k.map kV))):Dy H a (.ref b) (kx aO k):=.inr ⟨aO,k,b,.inl e,rfl,G,rfl⟩
section
variable {X:Cx}{ah:AO}{σ:St}{H:Hp}{s:Shared}{a:Addr}{y v:V}{u r:Value}{o:Option V}{A:Around}{E:QV}
def Inv.big (I:Inv X ah σ H s):sysModules<s.heap.objs.size:=by
 have h:mainGlobals<s.heap.objs.size:=(I.mod.glob.keeps I.bk).lt;exact Nat.lt_trans (by decide) h
def Rc (hu:A.units+1<cLine)(I:Inv X ah σ H s)(g:Dy H a y o)(O:bd y u)(h:∀s',Inv X ah σ H s'->Q (.bool o.isSome) s'):
  wpAny (model X.prog X.w) A (compareOp .In u (.ref a)) Q E s:=by
 rcases g with⟨aO,k,ob,e,M,l⟩|⟨aO,k,b,e,M,T,l⟩
 ·subst M;obtain⟨z,hd,vs,G,dd⟩:=BG I.hok e;refine wpAny_in_of (yv O) hd dd.mapOf ?_;rw[←(G.val k).isSome_eq,←l];exact h _ (I.tok _)
 ·subst M;cases (show u=Value.ref b from O)
  obtain⟨z,hd,xs,G,dd⟩:=BH I.hok e;refine wpAny_in_heap (tupleKind_room_in1 hu) (wV I.hok T) hd dd ?_;have q:=(G.val k).isSome_eq;rw[isSome_map]at q;rw[←q,←l];exact h _ (I.tok _)
def wW (I:Inv X ah σ H s)(G:NO (H a))(hs:Heap.SameBut a s.heap h')(he:∃q,h'.get? a=some q)(new:bN X.prog X.w (upd H a ob) h' a ob):
  Inv X ah σ (upd H a ob) { s with heap:=h',toks:=t' } :=
 I.write (x:=a) (e:=a) G (.inl rfl) (λb q hb z=>(hs.2 b hb).trans z) he new
def EU (z:aO.length<=sizeLine)(hd:(a == sysModules)=false)(G:KV aO vs)(dd:h'.DictOf (cw P w) a vs)(M:h'.get? a=some ob):
  bN P w H' h' a (.dK aO ob):=⟨M,z,hd,vs,G,dd⟩
def Dz (hu:A.units+1<cLine)(I:Inv X ah σ H s)(g:Oy H a y v R)(U:bd y u)(rv:bd v r)(h:∀H' s',R H'->Inv X ah σ H' s'->Q () s'):
  wpAny (model X.prog X.w) A (setItem (.ref a) u r) Q E s:=by
 rcases g with⟨aO,k,ob,e,O,l,T⟩|⟨aO,k,b,e,O,eb,l,T⟩
 ·subst O;obtain⟨z,hd,vs,G,dd⟩:=qy I.hok e;have hz:vs.length<=sizeLine:=by rw[←G.length];exact z
  have hl:(mH aO k v).length<=sizeLine:=by have:=ky aO k v;omega
  refine wpAny_setItem_pairs (hsz:=hz) (yv U) dd λh' M hs=>?_;obtain⟨q,hq⟩:∃q,h'.get? a=some q:=let ⟨q,_,_,hq,_⟩:=M;⟨q,hq⟩;exact h _ _ (T q) (wW I (by rw[e];exact True.intro) hs ⟨q,hq⟩ (EU hl hd (G.put k rv) M hq))
 ·subst O;cases (show u=Value.ref b from U)
  obtain⟨z,hd,xs,G,dd⟩:=Ox I.hok e;have hz:xs.length<=sizeLine:=by rw[←Paired.length G];exact z
  have hl:(mH aO k v).length<=sizeLine:=by have:=ky aO k v;omega
  refine wpAny_setItem_heap (hsz:=hz) (tupleKind_room_in1 hu) (wV I.hok eb) dd λh' M hs=>h _ _ T ?_;obtain⟨q,es,ep,hq,h2,h3,h4,_,h5⟩:=M;refine wW I (by rw[e];exact True.intro) hs ⟨q,hq⟩ ⟨hl,hd,_,(G.put k eb rv).keeps λc ys ec=>?_,q,es,ep,hq,h2,h3,h4,h5⟩;rw[aG (NN ec e (λz=>nomatch z))];exact ec
end
def Re (ty G:TE):TE:=λσ H Q=>ty σ H λy M=>G σ M λx H2=>∃a o,x=.ref a/\Dy H2 a y o/\Q (.bl o.isSome) H2
def BI (G ty M:TE):TS:=λD σ H=>M σ H λv O=>G σ O λx H2=>ty σ H2 λy T=>∃a,x=.ref a/\Oy T a y v (D.nx σ)
section
variable {X:Cx}{o i e value:Expr}{pos Ho MP:Pos}{td ty tv:TE}
def LC (hu:X.A.units+1<cLine)(hi:PE X i ty)(G:PE X o td):PC X .In i o (Re ty td):=by
 intro ah s σ H Q I h;refine c9 (hi ah s σ H _ I h) λiv s1 ⟨y,M,O,T,U⟩=>c9 (G ah s1 σ M _ O U) λu s2 ⟨x,H2,I2,rx,a,ov,ex,g,q2⟩=>?_;subst ex;obtain rfl:u=Value.ref a:=rx;exact Rc hu I2 g T λs3 I3=>⟨.bl ov.isSome,H2,I3,rfl,q2⟩
def wZ (hu:X.A.units+1<cLine)(G:PE X o td)(hi:PE X i ty)(hv:PE X value tv)(hs:swapsWith value (some (.Subscript o i Ho)) pos.line X.env=pure false):
  PS X (.Assign [.Subscript o i Ho] value pos) (BI td ty tv):=by
 intro ah s σ H D I h;refine wpAny_Assign_Subscript (c9 (hv ah s σ H _ I h) λr s1 ⟨v,M,O,T,U⟩=>c9 (G ah s1 σ M _ O U) λu s2 ⟨x,H2,I2,rx,q2⟩=>c9 (hi ah s2 σ H2 _ I2 q2) λiv s3 ⟨y,H3,I3,ry,a,ex,g⟩=>?_) hs;subst ex;obtain rfl:u=Value.ref a:=rx;exact Dz hu I3 g ry T λH4 s4 q3 I4=>⟨σ,H4,I4,q3⟩
end
def yw (h:Heap)(hb:sysModules<h.objs.size):bN P w H (h.push { cls:=.type "dict",data:=.dict #[] }) h.objs.size (.dK [] { cls:=.type "dict",data:=.dict #[] }) :=
 ⟨vY _ rfl,uN _,beq_eq_false_iff_ne.mpr (Ne.symm (vS hb)),[],.nil,Heap.DictOf.new h⟩
def EV (h:Heap)(hb:sysModules<h.objs.size):bN P w H (h.push { cls:=.type "dict",data:=.dict #[] }) h.objs.size (.dT []) :=
 ⟨uN _,beq_eq_false_iff_ne.mpr (Ne.symm (vS hb)),[],.nil,_,#[],0,vY _ rfl,⟨rfl,rfl,rfl⟩,rfl,rfl,nodup_nil⟩
def EW:TE:=λ_ H Q=>∀p ob,H p=none->Q (.ref p) (upd H p (.dK [] ob))
def EX:TE:=λ_ H Q=>∀p,H p=none->Q (.ref p) (upd H p (.dT []))
section
variable {X:Cx}{pos:Pos}
def EY:PE X (.Dict [] [] pos) EW:=λah s σ H Q I h=>
 wpAny_Dict_empty ⟨.ref s.heap.objs.size,_,I.laid (a:=s.heap.objs.size) (o:=.dK [] { cls:=.type "dict",data:=.dict #[] }) (t':=s.toks) (λ_ _ q=>vZ _ q) (vT _) (yw s.heap I.big),rfl,h _ _ (I.hok.fresh (vT _))⟩
def EZ:PE X (.Dict [] [] pos) EX:=λah s σ H Q I h=>
 wpAny_Dict_empty ⟨.ref s.heap.objs.size,_,I.laid (a:=s.heap.objs.size) (o:=.dT []) (t':=s.toks) (λ_ _ q=>vZ _ q) (vT _) (EV s.heap I.big),rfl,h _ (I.hok.fresh (vT _))⟩
end
structure M1 (X:Cx)(o:Expr)(m:Str)(dJ:Pos)(e:Expr)(cF:Pos):Prop where
 base:attributeBase o m X.env (eval o X.env)=eval o X.env
 few:((backTo cF (starEach [e] X.env)).all (λx=>!x.1) && (backToKw cF (keywordEach [] X.env)).all (λx=>x.1.isSome)
  && decide (([e]:List Expr).length+([]:List Keyword).length+(if([]:List Keyword).isEmpty then 0 else 1)<30))=true
 line:(dJ.endLine == cF.line)=true
 trees:backTo cF (starEach [e] X.env)=[(false,eval e X.env)]
def Th (H:Hp)(a:Addr):Prop:=(∃aO ob,Rd H a (.dK aO ob))∨∃aO,Rd H a (.dT aO)
def LF (I:Inv X ah σ H s)(d:Th H a):
  s.TypeIs (.ref a) "dict"/\(∀b,Value.ref a=.ref b->∃ob,s.heap.get? b=some ob/\ob.dict=none)/\(a == sysModules)=false:=by
 rcases d with⟨aO,G,e⟩|⟨aO,e⟩
 ·obtain⟨_,hd,vs,_,dd⟩:=BG I.hok e;refine⟨dd.typeIs,λb q=>?_,hd⟩;cases q
  obtain⟨ob,_,_,h1,h2,_⟩:=dd;exact⟨ob,h1,h2.2.1⟩
 ·obtain⟨_,hd,xs,_,dd⟩:=BH I.hok e;refine⟨dd.typeIs,λb q=>?_,hd⟩;cases q
  obtain⟨ob,_,_,h1,h2,_⟩:=dd;exact⟨ob,h1,h2.2.1⟩
section
variable {X:Cx}{ah:AO}{σ:St}{H:Hp}{s:Shared}{a:Addr}{y d:V}{u r:Value}{o:Option V}{A:Around}{E:QV}
def LG (hu:A.units+1<cLine)(I:Inv X ah σ H s)(g:Dy H a y o)(O:bd y u)(h:∀T s',Inv X ah σ H s'->bd (o.getD .non) T->Q T s'):
  wpAny (model X.prog X.w) A (call (.builtin "dict.get") [.ref a,u]) Q E s:=by
 rcases g with⟨aO,k,ob,e,M,l⟩|⟨aO,k,b,e,M,U,l⟩
 ·subst M;obtain⟨z,hd,vs,G,dd⟩:=BG I.hok e;refine call_meetsIn slot_dict_get dd.typeIs entry_dict_get (PySem.F.args_dict_get_2 _ _) (meets_dict_get (cw X.prog X.w) a (yv O) hd) ⟨_,dd.mapOf,h _ _ (I.tok _) ?_⟩;rw[l];exact(G.val k).getD rfl
 ·subst M;cases (show u=Value.ref b from O)
  obtain⟨z,hd,xs,G,dd⟩:=BH I.hok e;refine call_meetsIn slot_dict_get dd.typeIs entry_dict_get (PySem.F.args_dict_get_2 _ _) (meetsH_dict_get (tupleKind (cw X.prog X.w)) a b hd) ⟨tupleKind_room_in1 hu,k,xs,wV I.hok U,dd,h _ _ (I.tok _) ?_⟩;rw[l];exact(G.val k).getD rfl
end
def LH (M ty:TE):TE:=λσ H Q=>M σ H λx G=>∃a,x=.ref a/\Th G a/\ty σ G λy H2=>∃o,Dy H2 a y o/\Q (o.getD .non) H2
section
variable {X:Cx}{o e f:Expr}{dJ cF:Pos}{td ty tx:TE}
def yx (hu:X.A.units+1<cLine)(O:PE X o td)(he:PE X e ty)(m:M1 X o "get" dJ e cF):PE X (.Call (.Attribute o "get" dJ) [e] [] cF) (LH td ty):=by
 intro ah s σ H Q I h;refine wpAny_Call_method m.base m.few m.line plainAttrs_dict slot_dict_get PySem.F.type_dict_get (c9 (O ah s σ H _ I h) λu s1 ⟨x,T,M,U,a,ex,d,q1⟩=>?_);subst ex;obtain rfl:u=Value.ref a:=U;obtain⟨t1,t2,_⟩:=LF M d;refine⟨t1,t2,?_⟩;rw[m.trees];refine Calls.callWith_builtin rfl (Calls.evalArgs_plain (Calls.spliced_cons (c9 (he ah s1 σ T _ M q1) λiv s2 ⟨y,H2,I2,ry,ov,g,q2⟩=>Calls.spliced_nil ?_)));exact LG hu I2 g ry λw' s3 I3 G=>⟨_,H2,I3,G,q2⟩
end
end L2
namespace DL
open PySem L2
set_option linter.all false
abbrev St:=L2.St
inductive D where
 |non|bl (b:Bool)|int (i:Int)|str (x:Str)|ty (n:String)|tup (ds:List D)|lst (ds:List D)
  |dk (ks:List eQ) (vs:List D)|dt (ks:List (List eQ)) (vs:List D)
abbrev LD:=List D
abbrev LV:=List V
abbrev LK:=List eQ
abbrev OB:=Option (D×Bool)
mutual
inductive Is (K:Frag)(H:Hp):V->D->Prop where
 |non:Is K H .non .non
 |bl (b:Bool):Is K H (.bl b) (.bl b)
 |int (i:Int):Is K H (.int i) (.int i)
 |str (x:Str):Is K H (.str x) (.str x)
 |ty (n:String):Is K H (.ty n) (.ty n)
 |tup {a:Addr}{vs:List V}{ds:List D}(h:jt K H a vs) (hs:IsL K H vs ds):Is K H (.ref a) (.tup ds)
 |lst {a:Addr}{vs:List V}{ds:List D}(h:iQ K H a vs) (hs:IsL K H vs ds):Is K H (.ref a) (.lst ds)
 |dk {a:Addr}{ks:List eQ}{vs:List V}{ds:List D}{ob:Obj}(h:H a=some (.dK (ks.zip vs) ob)) (hl:ks.length=vs.length) (hs:IsL K H vs ds):Is K H (.ref a) (.dk ks ds)
 |dt {a:Addr}{ks:List (List eQ)}{vs:List V}{ds:List D}(h:H a=some (.dT (ks.zip vs))) (hl:ks.length=vs.length) (hs:IsL K H vs ds):Is K H (.ref a) (.dt ks ds)
inductive IsL (K:Frag)(H:Hp):List V->List D->Prop where
 |nil:IsL K H [] []
 |cons {v:V}{d:D}{vs:List V}{ds:List D}(h:Is K H v d) (hs:IsL K H vs ds):IsL K H (v::vs) (d::ds)
end
mutual
def b8:D->Bool
 |.lst _=>false
 |.dk _ _=>false
 |.dt _ _=>false
 |.tup ds=>bB ds
 |_=>true
def bB:LD->Bool
 |[]=>true
 |d::ds=>b8 d && bB ds
end
@[simp] def Nm:b8 .non=true:=by simp only[b8]
@[simp] def Oz (b:Bool):b8 (.bl b)=true:=by simp only[b8]
@[simp] def Nn (i:Int):b8 (.int i)=true:=by simp only[b8]
@[simp] def No (x:Str):b8 (.str x)=true:=by simp only[b8]
@[simp] def O0 (x:String):b8 (.ty x)=true:=by simp only[b8]
@[simp] def Np (ds:LD):b8 (.tup ds)=bB ds:=by rw[b8]
@[simp] def Nq (ds:LD):b8 (.lst ds)=false:=by rw[b8]
@[simp] def O1 (ks:LK)(ds:LD):b8 (.dk ks ds)=false:=by rw[b8]
@[simp] def O2 (ks:List LK)(ds:LD):b8 (.dt ks ds)=false:=by rw[b8]
@[simp] def LJ:bB []=true:=by rw[bB]
@[simp] def Kv (d:D)(ds:LD):bB (d::ds)=(b8 d && bB ds):=by rw[bB]
section
variable {K:Frag}{H H':Hp}
mutual
theorem Is.keep (G:∀a vs,jt K H a vs->jt K H' a vs)(M:∀a vs,iQ K H a vs->iQ K H' a vs)(O:∀a aO ob,H a=some (.dK aO ob)->H' a=some (.dK aO ob))(T:∀a aO,H a=some (.dT aO)->H' a=some (.dT aO)):∀ {v:V}{d:D},Is K H v d->Is K H' v d
 |_,_,.non=>.non
 |_,_,.bl b=>.bl b
 |_,_,.int i=>.int i
 |_,_,.str x=>.str x
 |_,_,.ty x=>.ty x
 |_,_,.tup h hs=>.tup (G _ _ h) (IsL.keep G M O T hs)
 |_,_,.lst h hs=>.lst (M _ _ h) (IsL.keep G M O T hs)
 |_,_,.dk h hl hs=>.dk (O _ _ _ h) hl (IsL.keep G M O T hs)
 |_,_,.dt h hl hs=>.dt (T _ _ h) hl (IsL.keep G M O T hs)
theorem IsL.keep (G:∀a vs,jt K H a vs->jt K H' a vs)(M:∀a vs,iQ K H a vs->iQ K H' a vs)(O:∀a aO ob,H a=some (.dK aO ob)->H' a=some (.dK aO ob))(T:∀a aO,H a=some (.dT aO)->H' a=some (.dT aO)):∀ {vs:LV}{ds:LD},IsL K H vs ds->IsL K H' vs ds
 |_,_,.nil=>.nil
 |_,_,.cons h hs=>.cons (Is.keep G M O T h) (IsL.keep G M O T hs)
end
mutual
theorem Is.keepT (G:∀a vs,jt K H a vs->jt K H' a vs):∀ {v:V}{d:D},Is K H v d->b8 d=true->Is K H' v d
 |_,_,.non,_=>.non
 |_,_,.bl b,_=>.bl b
 |_,_,.int i,_=>.int i
 |_,_,.str x,_=>.str x
 |_,_,.ty x,_=>.ty x
 |_,_,.tup h hs,n=>.tup (G _ _ h) (IsL.keepT G hs (by simpa using n))
 |_,_,.lst h hs,n=>by simp at n
 |_,_,.dk h hl hs,n=>by simp at n
 |_,_,.dt h hl hs,n=>by simp at n
theorem IsL.keepT (G:∀a vs,jt K H a vs->jt K H' a vs):∀ {vs:LV}{ds:LD},IsL K H vs ds->bB ds=true->IsL K H' vs ds
 |_,_,.nil,_=>.nil
 |_,_,.cons h hs,n=>by
  simp at n;exact .cons (Is.keepT G h n.1) (IsL.keepT G hs n.2)
end
def bC (e:bc H H')(h:jt K H a xs):jt K H' a xs:=by
 rcases h with (h|⟨o,h⟩)|h
 ·exact .inl (.inl (e _ _ h))
 ·exact .inl (.inr ⟨o,e _ _ h⟩)
 ·exact .inr h
def Is.mono (h:Is K H v d)(e:bc H H'):Is K H' v d:=h.keep (λ_ _=>bC e) (λ_ _=>e.seq) (λ_ _ _ q=>e _ _ q) λ_ _ q=>e _ _ q
def IsL.mono (h:IsL K H v d)(e:bc H H'):IsL K H' v d:=h.keep (λ_ _=>bC e) (λ_ _=>e.seq) (λ_ _ _ q=>e _ _ q) λ_ _ q=>e _ _ q
theorem IsL.length:∀ {vs:LV}{ds:LD},IsL K H vs ds->vs.length=ds.length
 |_,_,.nil=>rfl
 |_,_,.cons _ t=>congrArg (· + 1) t.length
theorem IsL.get:∀ {vs:LV}{ds:LD}{i:Nat}{d:D},IsL K H vs ds->ds[i]? = some d->∃v,vs[i]? = some v/\Is K H v d
 |_,_,_,_,.nil,e=>by simp at e
 |_,_,0,_,.cons h _,e=>by simp at e;subst e;exact⟨_,rfl,h⟩
 |_,_,i+1,d,.cons _ t,e=>by
  obtain⟨u,h1,h2⟩:=t.get (i:=i) (d:=d) (by simpa using e);exact⟨u,by simpa using h1,h2⟩
theorem IsL.append:∀ {vs G:LV}{ds es:LD},IsL K H vs ds->IsL K H G es->IsL K H (vs++G) (ds++es)
 |_,_,_,_,.nil,s=>s
 |_,_,_,_,.cons r t,s=>.cons r (t.append s)
theorem IsL.take:∀ {vs:LV}{ds:LD}(n:Nat),IsL K H vs ds->IsL K H (vs.take n) (ds.take n)
 |_,_,0,_=>by simpa using IsL.nil
 |_,_,_+1,.nil=>.nil
 |_,_,n+1,.cons r t=>.cons r (t.take n)
theorem IsL.drop:∀ {vs:LV}{ds:LD}(n:Nat),IsL K H vs ds->IsL K H (vs.drop n) (ds.drop n)
 |_,_,0,r=>r
 |_,_,_+1,.nil=>.nil
 |_,_,n+1,.cons _ t=>t.drop n
theorem IsL.set (h:Is K H v d):∀ {vs:LV}{ds:LD}(i:Nat),IsL K H vs ds->IsL K H (vs.set i v) (ds.set i d)
 |_,_,_,.nil=>.nil
 |_,_,0,.cons _ t=>.cons h t
 |_,_,i+1,.cons r t=>.cons r (IsL.set h i t)
def IsL.flat {vs:LV}{ns:LI}(h:vs=ns.map V.int):IsL K H vs (ns.map D.int):=by
 subst h;induction ns with
 |nil=>exact .nil
 |cons n ns G=>exact .cons (.int n) G
end
structure Ext (B N H H':Hp):Prop where
 hh:bc H H'
 bn:bc B N
 nh:bc N H'
 new:∀a o,N a=some o->B a=some o∨H a=none
def Ext.refl (h:bc B H):Ext B B H H:=⟨.refl _,.refl _,h,λ_ _ e=>.inl e⟩
def Ext.trans (x:Ext B N H H1)(y:Ext N N2 H1 H2):Ext B N2 H H2 :=
 ⟨x.hh.trans y.hh,x.bn.trans y.bn,y.nh,λa o e=>(y.new a o e).elim (λq=>x.new a o q) λq=>.inr (x.hh.free q)⟩
def Ext.laid (h:bc B H)(hp:H p=none):Ext B (upd B p o) H (upd H p o):=by
 have G:B p=none:=h.free hp;refine⟨λa u e=>?_,λa u e=>?_,λa u e=>?_,λa u e=>?_⟩
 ·rw[aG (λq=>by subst q;rw[hp]at e;cases e)];exact e
 ·rw[aG (λq=>by subst q;rw[G]at e;cases e)];exact e
 ·by_cases q:a=p
  ·subst q;rw[aC]at e ⊢;exact e
  ·rw[aG q]at e ⊢;exact h _ _ e
 ·by_cases q:a=p
  ·subst q;exact .inr hp
  ·rw[aG q]at e;exact .inl e
def Ext.grow (h:bc B H)(hh:bc H H'):Ext B B H H':=⟨hh,.refl _,h.trans hh,λ_ _ e=>.inl e⟩
abbrev Env:=List OB
abbrev FE:=Env->OB
abbrev FA:=Env->Option LD
abbrev FT:=Env->Option Bool
def Nr (K:Frag)(H N:Hp)(v:V)(d:D):Prop:=∃(a:Addr)(vs:LV)(ds:LD),v=.ref a/\d=.lst ds/\H a=none/\N a=some (.lst vs)/\IsL K N vs ds
def Nr.back (h:Nr K H' N v d)(e:bc H H'):Nr K H N v d:=let ⟨a,vs,ds,q,y,z,r⟩:=h;⟨a,vs,ds,q,y,e.free z,r⟩
noncomputable def mK:LS:=["in_order","has_seal","is_first_death","bases_by"]
noncomputable def qz (x:Str):Str:=x ++ ".<locals>." ++ "<lambda>"
def Tb (K:Frag)(B:Hp):Prop:=∀x∈mK,∀c P,PySem.W.tabIn K x=some (c,P)->B P=some (.tbl (qz x))
def Tb.mono (h:Tb K B)(e:bc B B'):Tb K B':=λx hx c P q=>e _ _ (h x hx c P q)
structure fU (K:Frag)(B:Hp)(σ:St)(ρ:Env):Prop where
 tb:Tb K B
 at':∀(i:Nat)(d:D)(b:Bool),ρ[i]? = some (some (d,b))->∃v,σ[i]? = some (some v)/\Is K B v d
def fU.mono (h:fU K B σ ρ)(e:bc B B'):fU K B' σ ρ:=⟨h.tb.mono e,λi d b q=>let ⟨v,h1,h2⟩:=h.at' i d b q;⟨v,h1,h2.mono e⟩⟩
def Fin (K:Frag)(B H:Hp)(d:D)(b:Bool)(Q:VK):Prop:=∀(v:V)(H' N:Hp),Ext B N H H'->Is K N v d->(b=true->Nr K H N v d)->Q v H'
def tD (K:Frag)(f:FE):TE:=λσ H Q=>∃(B:Hp)(ρ:Env)(d:D)(b:Bool),bc B H/\fU K B σ ρ/\f ρ=some (d,b)/\Fin K B H d b Q
def BJ (K:Frag)(f:FT):TT:=λσ H Q=>∃(B:Hp)(ρ:Env)(c:Bool),bc B H/\fU K B σ ρ/\f ρ=some c/\∀H',bc H H'->Q c H'
def Nt (K:Frag)(f:FA):TA:=λσ H Q=>∃(B:Hp)(ρ:Env)(ds:LD),bc B H/\fU K B σ ρ/\f ρ=some ds/\∀(vs:LV)(H' N:Hp),Ext B N H H'->IsL K N vs ds->Q vs H'
def rD (K:Frag)(op:D->D->OB):R2:=λx y H Q=>∃(B:Hp)(dx G d:D)(b:Bool),bc B H/\Is K B x dx/\Is K B y G/\op dx G=some (d,b)/\Fin K B H d b Q
def Rf (K:Frag)(op:D->OB):V->Hp->VK->Prop:=λx H Q=>∃(B:Hp)(dx d:D)(b:Bool),bc B H/\Is K B x dx/\op dx=some (d,b)/\Fin K B H d b Q
def E1 (K:Frag)(op:LD->OB):LV->Hp->VK->Prop:=λxs H Q=>∃(B:Hp)(ds:LD)(d:D)(b:Bool),bc B H/\IsL K B xs ds/\op ds=some (d,b)/\Fin K B H d b Q
def Fin.one (h:Fin K B H d false Q)(s:bc B H)(i:Is K B v d):Q v H:=h v H B (.refl s) i (by simp)
def Fin.into (h:Fin K B H d b Q)(x:Ext B N H H1):Fin K N H1 d b Q:=λv H' N' y i G=>h v H' N' (x.trans y) i λe=>(G e).back x.hh
@[simp] noncomputable def fC (d:D):FE:=λ_=>some (d,false)
@[simp] noncomputable def am (i:Nat):FE:=λρ=>match ρ[i]? with|some (some (d,_))=>some (d,false)|_=>none
@[simp] noncomputable def f2 (op:D->D->OB)(fa G:FE):FE:=λρ=>(fa ρ).bind λx=>(G ρ).bind λy=>op x.1 y.1
@[simp] noncomputable def f1 (op:D->OB)(fa:FE):FE:=λρ=>(fa ρ).bind λx=>op x.1
@[simp] noncomputable def aj:FA:=λ_=>some []
@[simp] noncomputable def ag (fa:FE)(G:FA):FA:=λρ=>(fa ρ).bind λx=>(G ρ).bind λxs=>some (x.1::xs)
@[simp] noncomputable def fA (op:LD->OB)(fa:FA):FE:=λρ=>(fa ρ).bind op
def LL (h:tD K (am i) σ H Q):∃v,σ[i]? = some (some v)/\Q v H:=by
 obtain⟨B,ρ,d,b,s,r,e,q⟩:=h;unfold am at e;split at e
 ·rename_i d' M G;cases e
  obtain⟨v,h1,h2⟩:=r.at' i _ _ G;exact⟨v,h1,q.one s h2⟩
 ·cases e
def Ih (h:tD K (f2 op fa fb) σ H Q):tD K fa σ H λx O=>tD K fb σ O λy H2=>rD K op x y H2 Q:=by
 obtain⟨B,ρ,d,b,s,r,e,q⟩:=h;obtain⟨x,ex,e⟩:=oX e;obtain⟨y,T,e⟩:=oX e;refine⟨B,ρ,x.1,x.2,s,r,ex,λv O N G i1 _=>⟨N,ρ,y.1,y.2,G.nh,r.mono G.bn,T,λU H2 N2 M i2 _=>⟨N2,x.1,y.1,d,b,M.nh,i1.mono M.bn,i2,e,?_⟩⟩⟩;exact q.into (G.trans M)
def Rg (h:tD K (f1 op fa) σ H Q):tD K fa σ H λx G=>Rf K op x G Q:=by
 obtain⟨B,ρ,d,b,s,r,e,q⟩:=h;obtain⟨x,ex,e⟩:=oX e;exact⟨B,ρ,x.1,x.2,s,r,ex,λv G N M i1 _=>⟨N,x.1,d,b,M.nh,i1,e,q.into M⟩⟩
def Ii (h:tD K (fA op fa) σ H Q):Nt K fa σ H λxs G=>E1 K op xs G Q:=by
 obtain⟨B,ρ,d,b,s,r,e,q⟩:=h;obtain⟨x,ex,e⟩:=oX e;exact⟨B,ρ,x,s,r,ex,λv G N M i1=>⟨N,x,d,b,M.nh,i1,e,q.into M⟩⟩
def Ij (h:Nt K aj σ H Q):Q [] H:=by
 obtain⟨B,ρ,ds,s,r,e,q⟩:=h;cases e
 exact q [] H B (.refl s) .nil
def Fa (h:Nt K (ag fa fr) σ H Q):tD K fa σ H λx M=>Nt K fr σ M λxs H2=>Q (x::xs) H2:=by
 obtain⟨B,ρ,ds,s,r,e,q⟩:=h;obtain⟨x,ex,e⟩:=oX e;obtain⟨y,T,e⟩:=oX e;cases e
 exact⟨B,ρ,x.1,x.2,s,r,ex,λv M N G i1 _=>⟨N,ρ,y,G.nh,r.mono G.bn,T,λvs H2 N2 O i2=>q _ H2 N2 (G.trans O) (.cons (i1.mono O.bn) i2)⟩⟩
@[simp] noncomputable def aW (f:FE):FT:=λρ=>match f ρ with|some (.bl c,_)=>some c|_=>none
@[simp] noncomputable def dm (f g:FT):FT:=λρ=>match f ρ with|some true=>g ρ|some false=>some false|none=>none
@[simp] noncomputable def dR (f g:FT):FT:=λρ=>match f ρ with|some true=>some true|some false=>g ρ|none=>none
@[simp] noncomputable def cx (f:FT):FT:=λρ=>(f ρ).map (!·)
open Classical in
noncomputable def dU (H:Hp)(P:Addr->Prop):Hp:=λa=>if P a then none else H a
def cW (h:¬P a):dU H P a=H a:=by unfold dU;rw[if_neg h]
def AG (h:P a):dU H P a=none:=by unfold dU;rw[if_pos h]
def q8 (h:dU H P a=some o):¬P a/\H a=some o:=by
 by_cases q:P a
 ·rw[AG q]at h;cases h
 ·rw[cW q]at h;exact⟨q,h⟩
def bR:bc (dU H P) H:=λ_ _ e=>(q8 e).2
def eX (e:∀a o,H a=some o->¬P a->H' a=some o/\¬P' a):bc (dU H P) (dU H' P'):=λa o q=>by
 obtain⟨h1,h2⟩:=q8 q;obtain⟨h3,h4⟩:=e a o h2 h1;rw[cW h4];exact h3
noncomputable def join (N N':Hp):Hp:=λa=>match N a with|some o=>some o|none=>N' a
def fy:bc N (join N N'):=λa o e=>by unfold join;rw[e]
def eN (e:N a=none):join N N' a=N' a:=by unfold join;rw[e]
def own (σ:St)(ρ:Env)(a:Addr):Prop:=∃(i:Nat)(d:D),ρ[i]? = some (some (d,true))/\σ[i]? = some (some (V.ref a))
inductive Bx (K:Frag)(C:Hp):HO->D->Prop where
 |lst {vs:List V}{ds:List D}(h:IsL K C vs ds):Bx K C (.lst vs) (.lst ds)
 |dk {ks:List eQ}{vs:List V}{ds:List D}(hl:ks.length=vs.length) (h:IsL K C vs ds) {ob:Obj}:Bx K C (.dK (ks.zip vs) ob) (.dk ks ds)
 |dt {ks:List (List eQ)}{vs:List V}{ds:List D}(hl:ks.length=vs.length) (h:IsL K C vs ds):Bx K C (.dT (ks.zip vs)) (.dt ks ds)
def Bx.mono (h:Bx K C o d)(e:bc C C'):Bx K C' o d:=by
 cases h with
 |lst h=>exact .lst (h.mono e)
 |dk hl h=>exact .dk hl (h.mono e)
 |dt hl h=>exact .dt hl (h.mono e)
def Bx.is (h:Bx K C o d)(e:C a=some o):Is K C (.ref a) d:=by
 cases h with
 |lst h=>exact .lst (iQ.of e) h
 |dk hl h=>exact .dk e hl h
 |dt hl h=>exact .dt e hl h
structure eM (K:Frag)(B0 H0 N H:Hp)(σ:St)(ρ:Env):Prop where
 bh:bc B0 H0
 tb:Tb K B0
 ext:Ext B0 N H0 H
 len:ρ.length=σ.length
 sh:∀(i:Nat)(d:D),ρ[i]? = some (some (d,false))->∃v,σ[i]? = some (some v)/\Is K (dU N (own σ ρ)) v d
 ow:∀(i:Nat)(d:D),ρ[i]? = some (some (d,true))->∃(a:Addr)(o:HO),σ[i]? = some (some (V.ref a))/\N a=some o/\H0 a=none/\Bx K (dU N (own σ ρ)) o d
 inj:∀(i j:Nat)(a:Addr)(d e:D),ρ[i]? = some (some (d,true))->ρ[j]? = some (some (e,true))->σ[i]? = some (some (V.ref a))->σ[j]? = some (some (V.ref a))->i=j
def xa (K:Frag)(B0 H0 H:Hp)(σ:St)(ρ:Env):Prop:=∃N,eM K B0 H0 N H σ ρ
section
variable {K:Frag}{B0 H0 N H H':Hp}{σ:St}{ρ:Env}
def eM.owL (s:eM K B0 H0 N H σ ρ)(i:Nat)(d:D)(q:ρ[i]? = some (some (.lst es,true)))(hd:d=.lst es:=by rfl):∃(a:Addr)(vs:LV)(ds:LD),d=.lst ds/\σ[i]? = some (some (V.ref a))/\N a=some (.lst vs)/\H0 a=none/\IsL K (dU N (own σ ρ)) vs ds:=by
 obtain⟨a,o,h1,h2,h3,h4⟩:=s.ow i _ q;cases h4 with
 |lst h4=>exact⟨a,_,es,hd,h1,h2,h3,h4⟩
def boxed:HO->Prop
 |.lst _|.dK _ _|.dT _=>True
 |_=>False
def Bx.boxed (h:Bx K C o d):boxed o:=by cases h<;>exact trivial
def eM.owned (s:eM K B0 H0 N H σ ρ)(h:own σ ρ a):∃o,(N a=some o/\boxed o)/\H0 a=none:=by
 obtain⟨i,d,h1,h2⟩:=h;obtain⟨M,o,h3,h4,h5,G⟩:=s.ow i d h1;rw[h2]at h3;cases h3;exact⟨o,⟨h4,G.boxed⟩,h5⟩
def eM.rep (s:eM K B0 H0 N H σ ρ):fU K N σ ρ:=⟨s.tb.mono s.ext.bn,λi d b q=>by
 cases b with
 |false=>obtain⟨v,h1,h2⟩:=s.sh i d q;exact⟨v,h1,h2.mono bR⟩
 |true=>
  obtain⟨a,o,h2,h3,_,h4⟩:=s.ow i d q;exact⟨_,h2,(h4.mono bR).is h3⟩⟩
noncomputable def jz (ρ:Env):Env:=ρ.map λx=>match x with|some (d,false)=>some (d,false)|_=>none
def Fb {i:Nat}{d:D}{b:Bool}(h:(jz ρ)[i]? = some (some (d,b))):b=false/\ρ[i]? = some (some (d,false)):=by
 unfold jz at h;rw[vA]at h;cases e:ρ[i]? with
 |none=>rw[e]at h;cases h
 |some x=>
  rw[e]at h;match x,h with
  |some (d',false),h=>cases h;exact⟨rfl,rfl⟩
  |some (d',true),h=>cases h
  |none,h=>cases h
def eM.tbC (s:eM K B0 H0 N H σ ρ):Tb K (dU N (own σ ρ)):=λx hx c P q=>by
 have z:=s.tb.mono s.ext.bn x hx c P q;rw[cW]
 ·exact z
 ·intro y;obtain⟨o,⟨y,G⟩,_⟩:=s.owned y;rw[z]at y;cases y;exact G
def eM.repH (s:eM K B0 H0 N H σ ρ):fU K (dU N (own σ ρ)) σ (jz ρ):=⟨s.tbC,λi d b q=>by
 obtain⟨rfl,G⟩:=Fb q;exact s.sh i d G⟩
def eM.grow (s:eM K B0 H0 N H σ ρ)(x:Ext N N' H H'):eM K B0 H0 N' H' σ ρ:=by
 have c:bc (dU N (own σ ρ)) (dU N' (own σ ρ)):=eX λa o e q=>⟨x.bn a o e,q⟩;refine⟨s.bh,s.tb,s.ext.trans x,s.len,λi d q=>?_,λi d q=>?_,s.inj⟩
 ·obtain⟨v,h1,h2⟩:=s.sh i d q;exact⟨v,h1,h2.mono c⟩
 ·obtain⟨a,o,h2,h3,h4,h5⟩:=s.ow i d q;exact⟨a,o,h2,x.bn _ _ h3,h4,h5.mono c⟩
def eM.growH (s:eM K B0 H0 N H σ ρ)(x:Ext (dU N (own σ ρ)) N' H H'):eM K B0 H0 (join N N') H' σ ρ/\bc N' (dU (join N N') (own σ ρ)):=by
 have M:Ext N (join N N') H H':=by
  refine⟨x.hh,fy,λa o e=>?_,λa o e=>?_⟩
  ·cases q:N a with
   |some u=>
    have:join N N' a=some u:=fy _ _ q;rw[this]at e;cases e;exact x.hh _ _ (s.ext.nh _ _ q)
   |none=>rw[eN q]at e;exact x.nh _ _ e
  ·cases q:N a with
   |some u=>
    have:join N N' a=some u:=fy _ _ q;rw[this]at e;cases e;exact .inl rfl
   |none=>
    rw[eN q]at e;rcases x.new a o e with z|z
    ·have:=bR _ _ z;rw[q]at this;cases this
    ·exact .inr z
 refine⟨s.grow M,λa o e=>?_⟩;rcases x.new a o e with z|z
 ·obtain⟨O,T⟩:=q8 z;rw[cW O];exact fy _ _ T
 ·have G:N a=none:=s.ext.nh.free z;have:¬own σ ρ a:=λq=>by obtain⟨vs,⟨q,_⟩,_⟩:=s.owned q;rw[G]at q;cases q
  rw[cW this,eN G];exact e
noncomputable def unown (ρ:Env):Env:=ρ.map λx=>x.map λy=>(y.1,false)
def lr {i:Nat}{d:D}{b:Bool}(h:(unown ρ)[i]? = some (some (d,b))):b=false/\∃c,ρ[i]? = some (some (d,c)):=by
 unfold unown at h;rw[vA]at h;cases e:ρ[i]? with
 |none=>rw[e]at h;cases h
 |some x=>
  rw[e]at h;match x,h with
  |some (d',c),h=>cases h;exact⟨rfl,c,rfl⟩
  |none,h=>cases h
def uB {a:Addr}:¬own σ (unown ρ) a:=λ⟨i,d,h,_⟩=>by
 obtain⟨z,_⟩:=lr h;cases z
def eM.unown (s:eM K B0 H0 N H σ ρ):eM K B0 H0 N H σ (unown ρ):=by
 refine⟨s.bh,s.tb,s.ext,by unfold DL.unown;rw[vI];exact s.len,λi d q=>?_,λi d q=>?_,λi j a d e q=>?_⟩
 ·obtain⟨_,c,q⟩:=lr q;obtain⟨v,h1,h2⟩:=s.rep.at' i d c q;exact⟨v,h1,h2.mono λa o e=>by rw[cW uB];exact e⟩
 ·obtain⟨z,_⟩:=lr q;cases z
 ·obtain⟨z,_⟩:=lr q;cases z
def cj {α:Type}{l:List α}{i j:Nat}{x y:α}(h:(l.set i x)[j]? = some y):(i=j/\x=y)∨(i≠j/\l[j]? = some y):=by
 by_cases e:i=j
 ·subst e;rw[List.getElem?_set]at h;split at h
  ·split at h
   ·exact .inl ⟨rfl,vK h⟩
   ·cases h
  ·contradiction
 ·rw[vB e]at h;exact .inr ⟨e,h⟩
def uC {α G:Type}{l:List α}{m:List G}{i:Nat}{x y:α}(h:(l.set i x)[i]? = some y)(e:l.length=m.length):i<m.length:=by
 obtain⟨h,_⟩:=vV h;rw[length_set]at h;omega
def xc {i:Nat}{v:V}{x:OB}{a:Addr}(h:own (σ.set i (some v)) (ρ.set i x) a):(v=.ref a/\∃d,x=some (d,true))∨∃j,j≠i/\∃d,ρ[j]? = some (some (d,true))/\σ[j]? = some (some (V.ref a)):=by
 obtain⟨j,d,h1,h2⟩:=h;rcases cj h1 with⟨e,q⟩|⟨e,q⟩
 ·rcases cj h2 with⟨e2,G⟩|⟨e2,G⟩
  ·cases G;exact .inl ⟨rfl,d,q⟩
  ·exact absurd e e2
 ·rcases cj h2 with⟨e2,G⟩|⟨e2,G⟩
  ·exact absurd e2 e
  ·exact .inr ⟨j,λz=>e z.symm,d,q,G⟩
def eM.bind (s:eM K B0 H0 N H σ ρ){i:Nat}{v:V}{d:D}(h:Is K (dU N (own σ ρ)) v d):eM K B0 H0 N H (σ.set i (some v)) (ρ.set i (some (d,false))):=by
 have o:∀a,own (σ.set i (some v)) (ρ.set i (some (d,false))) a->own σ ρ a:=λa q=>by
  rcases xc q with⟨_,d',p⟩|⟨j,_,d',O,T⟩
  ·cases p
  ·exact⟨j,d',O,T⟩
 have c:bc (dU N (own σ ρ)) (dU N (own (σ.set i (some v)) (ρ.set i (some (d,false))))):=eX λa u e q=>⟨e,λz=>q (o a z)⟩;refine⟨s.bh,s.tb,s.ext,by simp[s.len],λj e q=>?_,λj e q=>?_,λj k a e f q U h1 h2=>?_⟩
 ·rcases cj q with⟨rfl,p⟩|⟨ne,p⟩
  ·cases p
   have hi:=uC q s.len;exact⟨v,by simp[hi],h.mono c⟩
  ·obtain⟨w,h1,h2⟩:=s.sh j e p;exact⟨w,by rw[vB ne];exact h1,h2.mono c⟩
 ·rcases cj q with⟨rfl,p⟩|⟨ne,p⟩
  ·cases p
  ·obtain⟨a,o,h1,h2,h3,h4⟩:=s.ow j e p;exact⟨a,o,by rw[vB ne];exact h1,h2,h3,h4.mono c⟩
 ·rcases cj q with⟨rfl,p⟩|⟨ne,p⟩
  ·cases p
  ·rcases cj U with⟨rfl,G⟩|⟨M,G⟩
   ·cases G
   ·rw[vB ne]at h1;rw[vB M]at h2;exact s.inj j k a e f p G h1 h2
def eM.bindOwn (s:eM K B0 H0 N H σ ρ){i:Nat}{a:Addr}{ob:HO}{dd:D}(hN:N a=some ob)(h0:H0 a=none)(M:∀(j:Nat)(d:D),ρ[j]? = some (some (d,true))->σ[j]? ≠ some (some (V.ref a)))
  (U:∀(j:Nat)(d:D),j≠i->ρ[j]? = some (some (d,false))->∃v,σ[j]? = some (some v)/\Is K (dU N (λb=>own σ ρ b∨b=a)) v d) (VT:∀(j:Nat)(d:D),j≠i->ρ[j]? = some (some (d,true))->∃(O:Addr)(o:HO),σ[j]? = some (some (V.ref O))/\N O=some o/\Bx K (dU N (λb=>own σ ρ b∨b=a)) o d)
  (RS:Bx K (dU N (λb=>own σ ρ b∨b=a)) ob dd):eM K B0 H0 N H (σ.set i (some (.ref a))) (ρ.set i (some (dd,true))):=by
 have o:∀b,own (σ.set i (some (V.ref a))) (ρ.set i (some (dd,true))) b->own σ ρ b∨b=a:=λb q=>by
  rcases xc q with⟨p,_⟩|⟨j,_,d',q1,q2⟩
  ·cases p;exact .inr rfl
  ·exact .inl ⟨j,d',q1,q2⟩
 have c:bc (dU N (λb=>own σ ρ b∨b=a)) (dU N (own (σ.set i (some (V.ref a))) (ρ.set i (some (dd,true))))):=eX λb u e q=>⟨e,λz=>q (o b z)⟩;refine⟨s.bh,s.tb,s.ext,by simp[s.len],λj e q=>?_,λj e q=>?_,λj k b e f q q' h1 h2=>?_⟩
 ·rcases cj q with⟨rfl,p⟩|⟨ne,p⟩
  ·cases p
  ·obtain⟨w,h1,h2⟩:=U j e (Ne.symm ne) p;exact⟨w,by rw[vB ne];exact h1,h2.mono c⟩
 ·rcases cj q with⟨rfl,p⟩|⟨ne,p⟩
  ·cases p
   have hi:=uC q s.len;exact⟨a,ob,by simp[hi],hN,h0,RS.mono c⟩
  ·obtain⟨O,o',h1,h2,h4⟩:=VT j e (Ne.symm ne) p;have h3:H0 O=none:=by
    obtain⟨a2,_,k1,_,k3,_⟩:=s.ow j e p;rw[h1]at k1;cases k1;exact k3
   exact⟨O,o',by rw[vB ne];exact h1,h2,h3,h4.mono c⟩
 ·rcases cj q with⟨rfl,p⟩|⟨ne,p⟩
  ·rcases cj q' with⟨rfl,T⟩|⟨G,T⟩
   ·rfl
   ·rw[vB G]at h2;have VU:V.ref a=V.ref b:=by
     rcases cj h1 with⟨_,z⟩|⟨z,_⟩
     ·exact vK z
     ·exact absurd rfl z
    cases VU
    exact absurd h2 (M k f T)
  ·rcases cj q' with⟨rfl,T⟩|⟨G,T⟩
   ·rw[vB ne]at h1;have RU:V.ref a=V.ref b:=by
     rcases cj h2 with⟨_,z⟩|⟨z,_⟩
     ·exact vK z
     ·exact absurd rfl z
    cases RU
    exact absurd h1 (M j e p)
   ·rw[vB ne]at h1;rw[vB G]at h2;exact s.inj j k b e f p T h1 h2
end
inductive Res where
 |nx (ρ:Env)|rt (d:D) (b:Bool)|bk (ρ:Env)|ct (ρ:Env)
abbrev FS:=Env->Option Res
def O3 (K:Frag)(B0 H0:Hp)(E:Ends):Res->Prop
 |.nx ρ=>∀σ H,xa K B0 H0 H σ ρ->E.nx σ H
 |.rt d b=>∀v H N,Ext B0 N H0 H->Is K N v d->(b=true->Nr K H0 N v d)->E.rt v H
 |.bk ρ=>∀σ H,xa K B0 H0 H σ ρ->E.bk σ H
 |.ct ρ=>∀σ H,xa K B0 H0 H σ ρ->E.ct σ H
def oe (K:Frag)(g:FS):TS:=λE σ H=>∃(B0 H0:Hp)(ρ:Env)(r:Res),xa K B0 H0 H σ ρ/\g ρ=some r/\O3 K B0 H0 E r
section
variable {K:Frag}{B0 H0 N H H':Hp}{σ:St}{ρ:Env}{E:Ends}
def eM.writeB (s:eM K B0 H0 N H σ ρ)(hi:ρ[i]? = some (some (d,true)))(G:σ[i]? = some (some (V.ref a)))(h:Bx K (dU N (own σ ρ)) ob dd):
  eM K B0 H0 (upd N a ob) (upd H a ob) σ (ρ.set i (some (dd,true))):=by
 have oa:own σ ρ a:=⟨i,d,hi,G⟩;obtain⟨ws,hw,h0⟩:=s.owned oa;have b0:B0 a=none:=s.bh.free h0;have o:∀b,own σ (ρ.set i (some (dd,true))) b↔own σ ρ b:=λb=>by
  constructor
  ·rintro⟨j,e,O,M⟩;rcases cj O with⟨rfl,p⟩|⟨_,p⟩
   ·exact⟨i,d,hi,M⟩
   ·exact⟨j,e,p,M⟩
  ·rintro⟨j,e,O,M⟩;by_cases z:i=j
   ·subst z;exact⟨i,dd,by rw[List.getElem?_set_self (vV hi).1],M⟩
   ·exact⟨j,e,by rw[vB z];exact O,M⟩
 have c:bc (dU N (own σ ρ)) (dU (upd N a ob) (own σ (ρ.set i (some (dd,true))))):=eX λb u e q=>by
  have ne:b≠a:=λz=>q (z ▸ oa);exact⟨by rw[aG ne];exact e,λz=>q ((o b).mp z)⟩
 refine⟨s.bh,s.tb,⟨λb u e=>?_,λb u e=>?_,λb u e=>?_,λb u e=>?_⟩,by rw[length_set];exact s.len,λj e q=>?_,λj e q=>?_,λj k b e f q q' h1 h2=>?_⟩
 ·rw[aG (λz=>by subst z;rw[h0]at e;cases e)];exact s.ext.hh _ _ e
 ·rw[aG (λz=>by subst z;rw[b0]at e;cases e)];exact s.ext.bn _ _ e
 ·by_cases z:b=a
  ·subst z;rw[aC]at e ⊢;exact e
  ·rw[aG z]at e ⊢;exact s.ext.nh _ _ e
 ·by_cases z:b=a
  ·subst z;exact .inr h0
  ·rw[aG z]at e;exact s.ext.new _ _ e
 ·rcases cj q with⟨rfl,p⟩|⟨ne,p⟩
  ·cases p
  ·obtain⟨v,h1,h2⟩:=s.sh j e p;exact⟨v,h1,h2.mono c⟩
 ·rcases cj q with⟨rfl,p⟩|⟨ne,p⟩
  ·cases p
   exact⟨a,ob,G,aC,h0,h.mono c⟩
  ·obtain⟨U,o',h1,h2,h3,h4⟩:=s.ow j e p;have na:U≠a:=λz=>by subst z;exact ne (s.inj i j _ d e hi p G h1)
   exact⟨U,o',h1,by rw[aG na];exact h2,h3,h4.mono c⟩
 ·have get:∀ {j:Nat}{e:D},(ρ.set i (some (dd,true)))[j]? = some (some (e,true))->∃T,ρ[j]? = some (some (T,true)):=λ{j e} q=>by
   rcases cj q with⟨rfl,p⟩|⟨ne,p⟩
   ·exact⟨d,hi⟩
   ·exact⟨e,p⟩
  obtain⟨T,O⟩:=get q;obtain⟨f',M⟩:=get q';exact s.inj j k b T f' O M h1 h2
def eM.write (s:eM K B0 H0 N H σ ρ)(hi:ρ[i]? = some (some (d,true)))(G:σ[i]? = some (some (V.ref a)))(h:IsL K (dU N (own σ ρ)) vs ds):
  eM K B0 H0 (upd N a (.lst vs)) (upd H a (.lst vs)) σ (ρ.set i (some (.lst ds,true))):=s.writeB hi G (.lst h)
def eM.tups (s:eM K B0 H0 N H σ ρ):∀a vs,jt K N a vs->jt K (dU N (own σ ρ)) a vs:=λa vs h=>by
 have G:∀u,N a=some u->¬boxed u->dU N (own σ ρ) a=some u:=λu e hu=>by
  rw[cW λz=>?_];exact e;obtain⟨O,⟨q,M⟩,_⟩:=s.owned z;rw[e]at q;cases q;exact hu M
 rcases h with (h|⟨o,h⟩)|h
 ·exact .inl (.inl (G _ h (λq=>q)))
 ·exact .inl (.inr ⟨o,G _ h (λq=>q)⟩)
 ·exact .inr h
def eM.flat (s:eM K B0 H0 N H σ ρ)(h:Is K N v d)(n:b8 d=true):Is K (dU N (own σ ρ)) v d:=h.keepT s.tups n
def eM.flats (s:eM K B0 H0 N H σ ρ)(h:IsL K N v d)(n:bB d=true):IsL K (dU N (own σ ρ)) v d:=h.keepT s.tups n
def eM.rebase (s:eM K B0 H0 N H σ ρ):eM K (dU N (own σ ρ)) (dU H (own σ ρ)) N H σ ρ :=
 ⟨eX λa o e q=>⟨s.ext.nh _ _ e,q⟩,s.tbC,⟨bR,bR,s.ext.nh,λa o e=>by
  by_cases q:own σ ρ a
  ·exact .inr (AG q)
  ·exact .inl (by rw[cW q];exact e)⟩,s.len,s.sh,λi d q=>by
   obtain⟨a,o,h1,h2,_,h4⟩:=s.ow i d q;exact⟨a,o,h1,h2,AG ⟨i,d,q,h1⟩,h4⟩,s.inj⟩
def eM.unbase (s:eM K B0 H0 N H σ ρ)(t:eM K (dU N (own σ ρ)) (dU H (own σ ρ)) N' H' σ' ρ'):eM K B0 H0 N' H' σ' ρ':=by
 have h0:bc H0 (dU H (own σ ρ)):=λa o e=>by
  rw[cW λz=>?_];exact s.ext.hh _ _ e;obtain⟨_,_,q⟩:=s.owned z;rw[q]at e;cases e
 have G:bc B0 (dU N (own σ ρ)):=λa o e=>by
  rw[cW λz=>?_];exact s.ext.bn _ _ e;obtain⟨_,_,q⟩:=s.owned z;rw[s.bh _ _ e]at q;cases q
 refine⟨s.bh,s.tb,⟨h0.trans t.ext.hh,G.trans t.ext.bn,t.ext.nh,λa o e=>?_⟩,t.len,t.sh,λi d q=>?_,t.inj⟩
 ·rcases t.ext.new a o e with z|z
  ·exact s.ext.new a o (bR _ _ z)
  ·exact .inr (h0.free z)
 ·obtain⟨a,o,h1,h2,h3,h4⟩:=t.ow i d q;exact⟨a,o,h1,h2,h0.free h3,h4⟩
def eM.based (t:eM K B0 H0 N H σ ρ):bc B0 (dU N (own σ ρ)):=λa o e=>by
 rw[cW λz=>?_];exact t.ext.bn _ _ e;obtain⟨_,_,q⟩:=t.owned z;rw[t.bh _ _ e]at q;cases q
@[simp] noncomputable def aA (g h:FS):FS:=λρ=>match g ρ with|some (.nx ρ')=>h ρ'|r=>r
@[simp] noncomputable def aU:FS:=λρ=>some (.nx ρ)
@[simp] noncomputable def di (c:FT)(g h:FS):FS:=λρ=>match c ρ with|some true=>g ρ|some false=>h ρ|none=>none
@[simp] noncomputable def aH (f:FE):FS:=λρ=>(f ρ).map λx=>.rt x.1 x.2
@[simp] noncomputable def Fc:D->Bool
 |.dk _ _=>true
 |.dt _ _=>true
 |_=>false
@[simp] def gT (i:Nat):FS:=λρ=>match ρ[i]? with|some (some (d,b))=>some (.rt d (b && !Fc d))|_=>none
@[simp] def Kw:D->Bool
 |.lst ds=>bB ds
 |_=>false
@[simp] def setE (ρ:Env)(i:Nat)(d:D)(b:Bool):Env :=
 if b8 d=true then ρ.set i (some (d,false))else if b=true/\Kw d=true then ρ.set i (some (d,true))else (unown ρ).set i (some (d,false))
@[simp] def aX (i:Nat)(f:FE):FS:=λρ=>(f ρ).map λx=>.nx (setE ρ i x.1 x.2)
@[simp] def yy (i:Nat)(f:FE):FS:=λρ=>(f (jz ρ)).map λx=>.nx (ρ.set i (some (x.1,false)))
@[simp] def xf (i:Nat)(f:FE):FS:=λρ=>match ρ[i]? with
 |some (some (.lst ds,true))=>(f ρ).bind λx=>if b8 x.1=true/\ds.length<sizeLine then some (.nx (ρ.set i (some (.lst (ds++[x.1]),true))))else none
 |_=>none
def Ik (q:oe K (aA g h) E σ H):NW (oe K g) (oe K h) E σ H:=by
 obtain⟨B0,H0,ρ,r,s,e,p⟩:=q;unfold aA at e;cases G:g ρ with
 |none=>rw[G]at e;cases e
 |some M=>
  rw[G]at e;cases M with
  |nx ρ'=>exact⟨B0,H0,ρ,.nx ρ',s,G,λO H' s'=>⟨B0,H0,ρ',r,s',e,p⟩⟩
  |rt d b=>cases e;exact⟨B0,H0,ρ,_,s,G,p⟩
  |bk ρ'=>cases e;exact⟨B0,H0,ρ,_,s,G,p⟩
  |ct ρ'=>cases e;exact⟨B0,H0,ρ,_,s,G,p⟩
def Fd (q:oe K aU E σ H):Kn E σ H:=by
 obtain⟨B0,H0,ρ,r,s,e,p⟩:=q;cases e
 exact p σ H s
def xa.grown (s:eM K B0 H0 N H σ ρ)(h:bc H H'):xa K B0 H0 H' σ ρ:=⟨N,s.grow (.grow s.ext.nh h)⟩
def LM (q:oe K (di c g h) E σ H):NZ (BJ K c) (oe K g) (oe K h) E σ H:=by
 obtain⟨B0,H0,ρ,r,⟨N,s⟩,e,p⟩:=q;unfold di at e;cases G:c ρ with
 |none=>rw[G]at e;cases e
 |some b=>
  rw[G]at e;refine⟨N,ρ,b,s.ext.nh,s.rep,G,λM h1=>?_⟩;cases b with
  |true=>rw[if_pos rfl];exact⟨B0,H0,ρ,r,.grown s h1,e,p⟩
  |false=>rw[if_neg (by decide)];exact⟨B0,H0,ρ,r,.grown s h1,e,p⟩
def Il (q:oe K (aH f) E σ H):Lo (tD K f) E σ H:=by
 obtain⟨B0,H0,ρ,r,⟨N,s⟩,e,p⟩:=q;obtain⟨x,ex,e⟩:=oY e;subst e;exact⟨N,ρ,x.1,x.2,s.ext.nh,s.rep,ex,λv G N1 M i1 f1=>p v G N1 (s.ext.trans M) i1 λb=>(f1 b).back s.ext.hh⟩
def Fe (q:oe K (gT i) E σ H):Lo (pP i) E σ H:=by
 obtain⟨B0,H0,ρ,r,⟨N,s⟩,e,p⟩:=q;unfold gT at e;split at e
 ·rename_i d b ei;cases e
  cases b with
  |false=>
   obtain⟨v,h1,h2⟩:=s.sh i d ei;exact⟨v,h1,p v H N s.ext (h2.mono bR) (by simp)⟩
  |true=>
   obtain⟨a,o,h1,h2,h3,h4⟩:=s.ow i d ei;cases h4 with
   |lst h4=>exact⟨_,h1,p _ H N s.ext (.lst (iQ.of h2) (h4.mono bR)) λ_=>⟨a,_,_,rfl,rfl,h3,h2,h4.mono bR⟩⟩
   |dk hl h4=>exact⟨_,h1,p _ H N s.ext (.dk h2 hl (h4.mono bR)) (by simp)⟩
   |dt hl h4=>exact⟨_,h1,p _ H N s.ext (.dt h2 hl (h4.mono bR)) (by simp)⟩
 ·cases e
def eM.setE (s:eM K B0 H0 N H σ ρ)(x:Ext N N1 H H1)(h:Is K N1 v d)(f:b=true->Nr K H N1 v d):eM K B0 H0 N1 H1 (σ.set i (some v)) (setE ρ i d b):=by
 have s1:=s.grow x;unfold DL.setE;by_cases hn:b8 d=true
 ·rw[if_pos hn];exact s1.bind (s1.flat h hn)
 ·rw[if_neg hn];by_cases hb:b=true/\Kw d=true
  ·rw[if_pos hb];obtain⟨a,vs,ds,rfl,rfl,ha,O,hs⟩:=f hb.1;have G:N a=none:=s.ext.nh.free ha;have T:¬own σ ρ a:=λz=>by obtain⟨U,⟨q,_⟩,_⟩:=s.owned z;rw[G]at q;cases q
   have c:bc (dU N (own σ ρ)) (dU N1 (λb=>own σ ρ b∨b=a)):=eX λb u e q=>⟨x.bn _ _ e,λz=>z.elim q λz=>by subst z;rw[G]at e;cases e⟩;refine s1.bindOwn O (s.ext.hh.free ha) (λj e q z=>T ⟨j,e,q,z⟩) (λj e _ q=>?_) (λj e _ q=>?_) (.lst (hs.keepT (λt ts st=>?_) hb.2))
   ·obtain⟨w,h1,h2⟩:=s.sh j e q;exact⟨w,h1,h2.mono c⟩
   ·obtain⟨a',o',h1,h2,_,h4⟩:=s.ow j e q;exact⟨a',o',h1,x.bn _ _ h2,h4.mono c⟩
   ·have M:∀u,N1 t=some u->¬boxed u->dU N1 (λb=>own σ ρ b∨b=a) t=some u:=λu e hu=>by
     rw[cW λz=>?_];exact e;rcases z with z|z
     ·obtain⟨U,⟨q,qb⟩,_⟩:=s1.owned z;rw[e]at q;cases q;exact hu qb
     ·subst z;rw[e]at O;cases O;exact hu trivial
    rcases st with (st|⟨o,st⟩)|st
    ·exact .inl (.inl (M _ st (λq=>q)))
    ·exact .inl (.inr ⟨o,M _ st (λq=>q)⟩)
    ·exact .inr st
  ·rw[if_neg hb];exact s1.unown.bind (h.mono λa o e=>by rw[cW uB];exact e)
def BK (q:oe K (aX i f) E σ H):Dk (tD K f) (jZ i) E σ H:=by
 obtain⟨B0,H0,ρ,r,⟨N,s⟩,e,p⟩:=q;obtain⟨x,ex,e⟩:=oY e;subst e;exact⟨N,ρ,x.1,x.2,s.ext.nh,s.rep,ex,λv G N1 M i1 f1=>p _ G ⟨N1,s.setE M i1 f1⟩⟩
def Ff (q:oe K (yy i f) E σ H):Dk (tD K f) (jZ i) E σ H:=by
 obtain⟨B0,H0,ρ,r,⟨N,s⟩,e,p⟩:=q;obtain⟨x,ex,e⟩:=oY e;subst e;refine⟨dU N (own σ ρ),jz ρ,x.1,x.2,bR.trans s.ext.nh,s.repH,ex,λv G N1 M i1 f1=>?_⟩;obtain⟨s1,c⟩:=s.growH M;exact p _ G ⟨_,s1.bind (i1.mono c)⟩
def Im (q:oe K (xf i f) E σ H):∃(a:Addr)(us:LV),σ[i]? = some (some (V.ref a))/\H a=some (.lst us)/\Kr (tD K f) Op σ H λxs H2=>BF (.ref a) xs H2 λ_ O=>E.nx σ O:=by
 obtain⟨B0,H0,ρ,r,⟨N,s⟩,e,p⟩:=q;unfold xf at e;split at e
 ·rename_i ds ei;obtain⟨x,ex,e⟩:=oX e;split at e
  ·rename_i hx;cases e
   obtain⟨a,vs,G,z,h1,h2,h3,h4⟩:=s.owL i _ ei;cases z
   refine⟨a,vs,h1,s.ext.nh _ _ h2,N,ρ,x.1,x.2,s.ext.nh,s.rep,ex,λv U N1 M i1 f1=>⟨a,vs,v,rfl,rfl,M.hh _ _ (s.ext.nh _ _ h2),by rw[h4.length];exact hx.2,?_⟩⟩;have s1:=s.grow M;obtain⟨a',T,G,z,k1,k2,_,k4⟩:=s1.owL i _ ei;cases z
   rw[h1]at k1;cases k1;rw[M.bn _ _ h2]at k2;cases k2;exact p σ _ ⟨_,s1.write ei h1 (k4.append (.cons (s1.flat i1 hx.1) .nil))⟩
  ·cases e
 ·cases e
end
noncomputable def fz (c:FT)(g:FS):Nat->Env->Option Res
 |0,_=>none
 |n+1,ρ=>match c ρ with
  |some true=>match g ρ with
   |some (.nx ρ')=>fz c g n ρ'
   |some (.ct ρ')=>fz c g n ρ'
   |some (.bk ρ')=>some (.nx ρ')
   |r=>r
  |some false=>some (.nx ρ)
  |none=>none
def D0 (q:oe K (fz c g n) E σ H):EA (BJ K c) (oe K g) E σ H:=by
 obtain⟨B0,H0,ρ,r,s,e,p⟩:=q;refine⟨λm σ H=>∃ρ,xa K B0 H0 H σ ρ/\fz c g m ρ=some r,⟨n,ρ,s,e⟩,?_⟩;rintro m σ H ⟨ρ,⟨N,s⟩,e⟩;cases m with
 |zero=>cases e
 |succ m=>
  unfold fz at e;cases M:c ρ with
  |none=>rw[M]at e;cases e
  |some b=>
   rw[M]at e;refine⟨N,ρ,b,s.ext.nh,s.rep,M,λU h1=>?_⟩;cases b with
   |false=>rw[if_neg (by decide)];cases e;exact p σ U (.grown s h1)
   |true=>
    rw[if_pos rfl];refine⟨λσ H=>∃ρ,xa K B0 H0 H σ ρ/\fz c g m ρ=some r,λG H' w=>⟨m,lt_succ_self m,w⟩,?_⟩;cases O:g ρ with
    |none=>rw[O]at e;cases e
    |some T=>
     rw[O]at e;refine⟨B0,H0,ρ,T,.grown s h1,O,?_⟩;cases T with
     |nx ρ'=>exact λG H' s'=>⟨ρ',s',e⟩
     |ct ρ'=>exact λG H' s'=>⟨ρ',s',e⟩
     |bk ρ'=>cases e;exact λG H' s'=>p G H' s'
     |rt d b=>cases e;exact p
def om (K:Frag)(J:It)(B:Hp)(ds:LD):Prop:=∀(i:Nat)(H:Hp),bc B H ->
 (∀d,ds[i]? = some d->J.go i H/\∀x H',J.yld i H x H'->∃N,Ext B N H H'/\Is K N x d)/\(ds.length<=i->J.stop i H)
def Ti (K:Frag)(f:FA):TI:=λσ H R=>∃(B:Hp)(ρ:Env)(ds:LD),bc B H/\fU K B σ ρ/\f ρ=some ds/\∀(J:It)(H' N:Hp),Ext B N H H'->om K J N ds->R J H'
abbrev FG:=D->Env->Option Env
def Io (K:Frag)(tg:FG)(g:TG):Prop:=∀(B0 H0 N H:Hp)(σ:St)(ρ ρ':Env)(v:V)(d:D)(Q:St->Hp->Prop),eM K B0 H0 N H σ ρ->Is K (dU N (own σ ρ)) v d->tg d ρ=some ρ' ->
 (∀G H',xa K B0 H0 H' G ρ'->Q G H')->g v σ H Q
@[simp] noncomputable def dF (i:Nat):FG:=λd ρ=>some (ρ.set i (some (d,false)))
def dW:Io K (dF i) (jZ i):=by
 intro B0 H0 N H σ ρ ρ' v d Q s h e k;cases e
 exact k _ H ⟨N,s.bind h⟩
noncomputable def j0 (tg:FG)(g:FS):LD->Env->Option Res
 |[],ρ=>some (.nx ρ)
 |d::ds,ρ=>(tg d ρ).bind λG=>match g G with
  |some (.nx ρ')=>j0 tg g ds ρ'
  |some (.ct ρ')=>j0 tg g ds ρ'
  |some (.bk ρ')=>some (.nx ρ')
  |r=>r
@[simp] def Fg (tg:FG)(g:FS)(ρ:Env):j0 tg g [] ρ=some (.nx ρ):=by rw[j0]
@[simp] theorem D1 (tg:FG)(g:FS)(d:D)(ds:LD)(ρ:Env):j0 tg g (d::ds) ρ=(tg d ρ).bind λG=>match g G with
  |some (.nx ρ')=>j0 tg g ds ρ'
  |some (.ct ρ')=>j0 tg g ds ρ'
  |some (.bk ρ')=>some (.nx ρ')
  |r=>r:=by rw[j0]
@[simp] def ma (f:FA)(tg:FG)(g:FS):FS:=λρ=>(f (jz ρ)).bind λds=>j0 tg g ds ρ
def yz (ht:Io K tg t)(s1:eM K B0 H0 N H1 σ ρ)(c:bc N1 (dU N (own σ ρ)))(J1:om K J N1 ds)(e:j0 tg g ds ρ=some r)(p:O3 K B0 H0 E r):
  ∃W:Nat->Nat->St->Hp->Prop,(∃m,W 0 m σ H1)/\∀i m σ H,W i m σ H->(J.stop i H/\E.nx σ H)∨(J.go i H/\∃N:St->Hp->Prop,(∀G H',N G H'->∃m',m'<m/\W (i+1) m' G H')/\∀x H',J.yld i H x H'->t x σ H' λT H2=>oe K g { E with nx:=N,ct:=N,bk:=E.nx } T H2):=by
 refine⟨λi m σ H=>∃(N:Hp)(ρ:Env),eM K B0 H0 N H σ ρ/\bc N1 (dU N (own σ ρ))/\m=ds.length - i/\i<=ds.length/\j0 tg g (ds.drop i) ρ=some r,⟨ds.length,_,ρ,s1,c,rfl,uN _,e⟩,?_⟩;clear e s1 c;rintro i m σ H ⟨N,ρ,s,c,rfl,hi,e⟩;have hs:bc N1 H:=c.trans (bR.trans s.ext.nh);obtain⟨j1,j2⟩:=J1 i H hs;by_cases M:i<ds.length
 ·obtain⟨go,yl⟩:=j1 ds[i] (by simp[M]);rw[List.drop_eq_getElem_cons M]at e;obtain⟨U,e1,e⟩:=oX e;refine .inr ⟨go,λG H'=>∃(N:Hp)(ρ:Env),eM K B0 H0 N H' G ρ/\bc N1 (dU N (own G ρ))/\j0 tg g (ds.drop (i+1)) ρ=some r,λG H' ⟨N',ρ',s',c',e'⟩=>⟨_,by omega,N',ρ',s',c',rfl,M,e'⟩,λx H' y=>?_⟩;obtain⟨N2,O,i2⟩:=yl x H' y;have x3:Ext (dU N (own σ ρ)) (join (dU N (own σ ρ)) N2) H H':=by
   refine⟨O.hh,fy,λa o e=>?_,λa o e=>?_⟩
   ·cases q:dU N (own σ ρ) a with
    |some u=>rw[fy _ _ q]at e;cases e;exact O.hh _ _ (s.ext.nh _ _ (bR _ _ q))
    |none=>rw[eN q]at e;exact O.nh _ _ e
   ·cases q:dU N (own σ ρ) a with
    |some u=>rw[fy _ _ q]at e;cases e;exact .inl rfl
    |none=>
     rw[eN q]at e;rcases O.new a o e with z|z
     ·rw[c _ _ z]at q;cases q
     ·exact .inr z
  obtain⟨s2,c2⟩:=s.growH x3;have c3:bc N2 (join (dU N (own σ ρ)) N2):=λa o e=>by
   rcases O.new a o e with z|z
   ·exact fy _ _ (c _ _ z)
   ·rw[eN ((bR.trans s.ext.nh).free z)];exact e
  have i3:=i2.mono (c3.trans c2);have c4:bc N1 (dU (join N (join (dU N (own σ ρ)) N2)) (own σ ρ)):=(O.bn.trans c3).trans c2;refine ht _ _ _ _ _ _ _ _ _ _ s2.rebase i3 e1 λT H2 ⟨N4,s4⟩=>?_;cases eg:g U with
  |none=>rw[eg]at e;cases e
  |some r1=>
   rw[eg]at e;refine⟨_,_,U,r1,⟨N4,s4⟩,eg,?_⟩;have back:∀ {G:St}{H':Hp}{ρ':Env}{N':Hp},eM K _ _ N' H' G ρ'->eM K B0 H0 N' H' G ρ'/\bc N1 (dU N' (own G ρ')):=λt=>⟨s2.unbase t,c4.trans t.based⟩;cases r1 with
   |nx ρ'=>exact λG H' ⟨N',t⟩=>⟨N',ρ',(back t).1,(back t).2,e⟩
   |ct ρ'=>exact λG H' ⟨N',t⟩=>⟨N',ρ',(back t).1,(back t).2,e⟩
   |bk ρ'=>cases e;exact λG H' ⟨N',t⟩=>p G H' ⟨N',(back t).1⟩
   |rt d b=>
    cases e
    intro v H' N' x' i' f';have y:=s2.rebase.ext;have h0:bc H0 (dU H' (λ_=>False)):=λa o e=>by rw[cW (λz=>z)];exact x'.hh _ _ (by
     rw[cW λz=>?_];exact s2.ext.hh _ _ e;obtain⟨_,_,q⟩:=s2.owned z;rw[q]at e;cases e)
    have XC:bc H0 (dU H' (λ_=>False)):=h0;have hH:bc H0 (dU H' (λ_=>False)):=h0;have hc:∀a,dU H' (λ_=>False) a=H' a:=λa=>cW (λz=>z);have hb:bc H0 (dU _ (own σ ρ)):=λa o e=>by
     rw[cW λz=>?_];exact s2.ext.hh _ _ e;obtain⟨_,_,q⟩:=s2.owned z;rw[q]at e;cases e
    have bb:bc B0 (dU _ (own σ ρ)):=λa o e=>by
     rw[cW λz=>?_];exact s2.ext.bn _ _ e;obtain⟨_,_,q⟩:=s2.owned z;rw[s2.bh _ _ e]at q;cases q
    refine p v H' N' ⟨hb.trans x'.hh,bb.trans x'.bn,x'.nh,λa o e=>?_⟩ i' λz=>(f' z).back hb;rcases x'.new a o e with z|z
    ·exact s2.ext.new a o (bR _ _ z)
    ·exact .inr (hb.free z)
 ·have ei:i=ds.length:=by omega
  subst ei;rw[List.drop_eq_nil_of_le (vT _)]at e;cases e
  exact .inl ⟨j2 (vT _),p σ H ⟨N,s⟩⟩
def Ip (G:Io K tg t)(q:oe K (ma f tg g) E σ H):Ls (Ti K f) t (oe K g) E σ H:=by
 obtain⟨B0,H0,ρ,r,⟨N,s⟩,e,p⟩:=q;obtain⟨ds,M,e⟩:=oX e;refine⟨dU N (own σ ρ),jz ρ,ds,bR.trans s.ext.nh,s.repH,M,λJ U N1 O T=>?_⟩;obtain⟨s1,c⟩:=s.growH O;exact yz G s1 c T e p
def Qr (K:Frag)(f:FA):TI:=λσ H R=>∃(B:Hp)(ρ:Env)(ds:LD),bc B H/\fU K B σ ρ/\f ρ=some ds/\∀(J:It)(H' N:Hp),Ext B N H H'->(∀G,om K J G ds)->R J H'
@[simp] def oS (f:FA)(tg:FG)(g:FS):FS:=λρ=>(f ρ).bind λds=>j0 tg g ds ρ
def Fh (G:Io K tg t)(q:oe K (oS f tg g) E σ H):Ls (Qr K f) t (oe K g) E σ H:=by
 obtain⟨B0,H0,ρ,r,⟨N,s⟩,e,p⟩:=q;obtain⟨ds,M,e⟩:=oX e;refine⟨N,ρ,ds,s.ext.nh,s.rep,M,λJ U N1 O T=>?_⟩;exact yz G (s.grow O) (bc.refl _) (T _) e p
end DL
namespace DL
open PySem PySem.Spec PyProof.Rows L2
abbrev JE (X:Cx)(e:Expr)(f:FE):Prop:=PE X e (tD X.K f)
abbrev JT (X:Cx)(e:Expr)(f:FT):Prop:=PT X e (BJ X.K f)
abbrev JW (X:Cx)(e:Expr)(f:FT):Prop:=PW X e (BJ X.K f)
abbrev JA (X:Cx)(es:QD)(f:FA):Prop:=PA X es (Nt X.K f)
abbrev JS (X:Cx)(st:Stmt)(g:FS):Prop:=PS X st (oe X.K g)
abbrev uE (X:Cx)(st:List Stmt)(g:FS):Prop:=tY X st (oe X.K g)
abbrev JI (X:Cx)(tg G:Expr)(f:FA):Prop:=PI X tg G (Ti X.K f)
def LO (M:Model)(A:Around)(O:QD)(T:Expr)(env:PySem.Env)(U:Value)(E:QV)(P:Shared->Prop):Shared->Prop :=
 wpAny M A (forIn O true λc r=>if r=true then do let ok ←isTrue c env (eval c env);pure (ForInStep.yield ok)else pure (ForInStep.yield r))
  (λok G=>if ok=true then wpAny M A (eval T env) (λx=>wpAny M A (call (.builtin "list.append") [U,x]) (λ_=>P) E) E G else P G) E
def xg {E:QV}(hE:∀x s,¬E x s)(I:Nat->Shared->Prop)
  (T:∀n s,I n s->wpAny (model prog w) A (pyNext it) (λr G=>match r with
   |none=>R (.ok .next) G
   |some v=>wpAny (model prog w) A (letOwnedTupleGo B6 it v) (λ_=>wpAny (model prog w) A (assign B6 env v) (λ_=>LO (model prog w) A B7 yg env As E λs=>∃m,m<n/\I m s) E) E G) E s)
  (n:Nat) (h:I n s):codeAny (model prog w) A (.compLoop (.ListComp yg [⟨B6,gA,B7,0⟩] scope pos) 0 it As env) R s:=by
 refine codeAny_loop rfl I (λn s hI=>?_) n h;show wpAny _ A ((compTurn (.ListComp yg [⟨B6,gA,B7,0⟩] scope pos) 0 it As env).onRaise (λx=>do noteFrame x env;theTreesLotGoes x)) _ _ s;refine wpAny_noted (wpAny_mono (E:=E) ?_ (λ_ _ q=>q) λ_ _ z=>(hE _ _ z).elim);rw[compTurn_list];refine wX (wpAny_standAt (wX (c9 (T n s hI) λr G M=>?_)));cases r with
 |none=>exact wY M
 |some v=>
  refine wX (c9 M λ_ G M=>wX (c9 M λ_ s₂ U=>wX (c9 U λok s₃ O=>?_)));cases ok with
  |false=>exact wY ⟨rfl,O⟩
  |true=>exact wX (wX (c9 O λx s₄ h₄=>wX (c9 h₄ λ_ s₅ h₅=>wY (wY ⟨rfl,h₅⟩))))
def Ext.upd (x:Ext B N H H')(h:H a=none)(G:N a=none):Ext B N H (upd H' a o) :=
 ⟨λb u e=>by rw[aG (λz=>by subst z;rw[h]at e;cases e)];exact x.hh _ _ e,x.bn,λb u e=>by rw[aG (λz=>by subst z;rw[G]at e;cases e)];exact x.nh _ _ e,x.new⟩
noncomputable abbrev jg (X:Cx)(N':LS)(scope:Scope)(cl:List (Str×Addr))(C:Addr)(G:Shared)(M:Hp)(fp:List Addr):Cx :=
 { X with N:=N',s₀:=G,H₀:=M,env:=compEnvC scope cl C X.env,outer:=X.stack,stack:=X.stack,ex:=fp,fn:=λ_=>false,pn:=[],xe:=λ_ _=>False }
inductive nZ (X:Cx)(N':List Str)(scope:Scope)(cl:List (Str×Addr)):Nat->List Nat->Prop where
 |nil {j:Nat}(h:N'.length=j):nZ X N' scope cl j []
 |cons {j i:Nat}{r:List Nat}{x:Str}(h1:N'[j]? = some x) (h2:X.N[i]? = some x) (h3:X.env.kindOf x=some .cell∨X.env.kindOf x=some .free)
   (h4:(relabel scope X.env).names.lookup x=some .cell∨(relabel scope X.env).names.lookup x=some .free) (h5:cl.lookup x=X.env.cells.lookup x) (t:nZ X N' scope cl (j+1) r):nZ X N' scope cl j (i::r)
theorem nZ.len:∀ {j:Nat}{cap:LN},nZ X N' scope cl j cap->N'.length=j+cap.length
 |_,_,.nil h=>by rw[h];rfl
 |j,i::r,.cons _ _ _ _ _ t=>by rw[t.len,vE];omega
theorem nZ.get:∀ {j:Nat}{cap:LN}{k i:Nat},nZ X N' scope cl j cap->cap[k]? = some i->∃x,N'[j+k]? = some x/\X.N[i]? = some x/\(X.env.kindOf x=some .cell∨X.env.kindOf x=some .free) /\
  ((relabel scope X.env).names.lookup x=some .cell∨(relabel scope X.env).names.lookup x=some .free)/\cl.lookup x=X.env.cells.lookup x
 |_,_,_,_,.nil _,e=>by simp at e
 |j,_,0,_,.cons h1 h2 h3 h4 h5 _,e=>by simp at e;subst e;exact⟨_,h1,h2,h3,h4,h5⟩
 |j,_,k+1,i,.cons _ _ _ _ _ t,e=>by
  obtain⟨x,q,r⟩:=t.get (k:=k) (i:=i) (by simpa using e);exact⟨x,by rw[show j+(k+1)=j+1+k by omega];exact q,r⟩
structure CompSc (X:Cx)(scope:Scope)(cl:List (Str×Addr)):Prop where
 clos:closureFor scope X.env=pure cl
 nocell:∀y∈scope.names,y.2≠.cell
 kind:scope.kind=.function
 names:∀y∈scope.names,y.2=.local->scope.names.lookup y.1=some .local
 sub:∀x c,cl.lookup x=some c->X.env.cells.lookup x=some c
 has:∀x,((relabel scope X.env).names.lookup x=some .cell∨(relabel scope X.env).names.lookup x=some .free)->∃c,cl.lookup x=some c
noncomputable def dX:List (Str×NameKind)->List (Str×Addr)->List (Str×Addr)->List (Str×Addr)
 |[],_,cs=>cs
 | (n,k)::r,cells,cs=>dX r cells (if k == .free then (match cells.lookup n with|some c=>(n,c)::cs|none=>cs)else cs)
def uF:∀(names:List (Str×NameKind))(cs:List (Str×Addr)),(∀y∈names,y.2=.free->(env.cells.lookup y.1).isSome=true) ->
    (do let mut cs:=cs
        for (name,kind)in names do
          if kind == .free then cs:=(name,←cellOf env name)::cs
        return cs:Sem (List (Str×Addr)))=pure (dX names env.cells cs):=by
  intro names;induction names with
  |nil=>intro cs _;rfl
  |cons y r O=>
    intro cs h;obtain⟨n,k⟩:=y;have G:=λcs=>O cs λy hy=>h y (mZ _ hy);by_cases hk:k=.free
    . subst hk;have hc:=h (n,.free) mX rfl;cases q:env.cells.lookup n with
      |none=>rw[q]at hc;cases hc
      |some c=>
        have M:dX ((n,.free)::r) env.cells cs=dX r env.cells ((n,c)::cs):=by
          rw[dX,q];rfl
        rw[M,←G ((n,c)::cs)];have e2:cellOf env n=pure c:=by unfold cellOf;rw[q]
        simp only[forIn_cons,beq_self_eq_true,if_true,e2];rfl
    . have hb:(k == NameKind.free)=false:=by simpa using hk
      have M:dX ((n,k)::r) env.cells cs=dX r env.cells cs:=by rw[dX,hb];rfl
      rw[M,←G cs];simp only[forIn_cons,hb,uV,if_false];rfl
theorem mL:∀(names:List (Str×NameKind))(cs:List (Str×Addr)),(∀y d,cs.lookup y=some d->cells.lookup y=some d)->(dX names cells cs).lookup x=some c->cells.lookup x=some c
 |[],cs,h,e=>h x c e
 | (n,k)::r,cs,h,e=>by
  rw[dX]at e;refine mL r _ (λy d q=>?_) e;split at q
  ·split at q
   ·rename_i M G;rw[lookup_cons]at q;split at q
    ·rename_i hy;cases q
     rw[eq_of_beq hy];exact G
    ·exact h y d q
   ·exact h y d q
  ·exact h y d q
theorem uG:∀(names:List (Str×NameKind))(cs:List (Str×Addr)),(cs.lookup x).isSome=true->((dX names cells cs).lookup x).isSome=true
 |[],cs,h=>h
 | (n,k)::r,cs,h=>by
  rw[dX];refine uG r _ ?_;split
  ·split
   ·rw[lookup_cons];split
    ·rfl
    ·exact h
   ·exact h
  ·exact h
theorem mM:∀(names:List (Str×NameKind))(cs:List (Str×Addr)),(x,NameKind.free)∈names->(cells.lookup x).isSome=true->((dX names cells cs).lookup x).isSome=true
 | (n,k)::r,cs,hm,hc=>by
  rw[dX];rcases vP hm with e|e
  ·cases e
   refine uG r _ ?_;cases q:cells.lookup x with
   |none=>rw[q]at hc;cases hc
   |some c=>simp
  ·exact mM r _ e hc
theorem gb {α:Type}{x:Str}{k:α}:∀ {l:List (Str×α)},l.lookup x=some k->(x,k)∈l
 | (n,j)::r,h=>by
  rw[lookup_cons]at h;split at h
  ·rename_i e;cases h
   rw[eq_of_beq e];exact mX
  ·exact mZ _ (gb h)
def LP {X:Cx}{scope:Scope}(h1:∀y∈scope.names,y.2≠.cell)(h2:scope.kind=.function)(h3:∀y∈scope.names,y.2=.local->scope.names.lookup y.1=some .local)(G:(scope.names.all λy=>!(y.2 == NameKind.free) || (X.env.cells.lookup y.1).isSome)=true):
  CompSc X scope (dX scope.names X.env.cells []):=by
 have h4:∀y∈scope.names,y.2=.free->(X.env.cells.lookup y.1).isSome=true:=λy hy e=>by
  have:=uR G y hy;rw[e]at this;simpa using this
 have frees:∀x,((relabel scope X.env).names.lookup x=some .cell∨(relabel scope X.env).names.lookup x=some .free)->(x,NameKind.free)∈scope.names:=λx h=>by
  have:∃k,(x,k)∈(relabel scope X.env).names/\(k=.cell∨k=.free):=by
   rcases h with h|h
   ·exact⟨_,gb h,.inl rfl⟩
   ·exact⟨_,gb h,.inr rfl⟩
  obtain⟨k,hm,hk⟩:=this;obtain⟨⟨n,j⟩,hj,e⟩:=vO hm;dsimp only at e;split at e
  ·rename_i hc;rw[vC,vC]at hc;cases e
   rw[←eq_of_beq hc.1.1];exact hj
  ·cases e
   rcases hk with rfl|rfl
   ·exact absurd rfl (h1 _ hj)
   ·exact hj
 exact⟨uF scope.names [] h4,h1,h2,h3,λx c e=>mL scope.names [] (λy d q=>by cases q) e,λx h=>by
  have:=mM (x:=x) scope.names [] (frees x h) (h4 _ (frees x h) rfl);exact uU this⟩
def qe {scope:Scope}{cells:List (Str×Addr)}{x:Str}(h:(x,NameKind.free)∈scope.names)(hc:(cells.lookup x).isSome=true):(dX scope.names cells []).lookup x=cells.lookup x:=by
 obtain⟨c,e⟩:=uU (mM (x:=x) scope.names [] h hc);rw[e,mL scope.names [] (λy d q=>by cases q) e]
noncomputable def uc (nT:Nat)(cap:LN)(σ:St):St:=List.replicate nT none++cap.map λi=>(σ[i]?).join
noncomputable def dr (nT:Nat)(cap:LN)(ρ:Env):Env:=List.replicate nT none++cap.map λi=>match ρ[i]? with|some (some (d,_))=>some (d,false)|_=>none
def xh {α:Type}{nT:Nat}{cap:LN}{f:Nat->Option α}{j:Nat}{v:α}(h:(List.replicate nT none++cap.map f)[j]? = some (some v)):∃k i,j=nT+k/\cap[k]? = some i/\f i=some v:=by
 by_cases hj:j<nT
 ·rw[getElem?_append_left (by simpa using hj),getElem?_replicate,if_pos hj]at h;cases h
 ·rw[getElem?_append_right (by simpa using Nat.not_lt.mp hj),length_replicate,vA]at h;obtain⟨i,h1,h2⟩:=oY h;exact⟨j - nT,i,by omega,h1,h2⟩
def Iq {α:Type}{nT:Nat}{cap:LN}{f:Nat->Option α}{k i:Nat}{v:α}(h1:cap[k]? = some i)(h2:f i=some v):(List.replicate nT none++cap.map f)[nT+k]? = some (some v):=by
 rw[getElem?_append_right (by simp),length_replicate,vA,Nat.add_sub_cancel_left,h1];simp[h2]
def fU.caps {K:Frag}{B:Hp}{σ:St}{ρ:Env}{nT:Nat}{cap:LN}(h:fU K B σ ρ):fU K B (uc nT cap σ) (dr nT cap ρ):=⟨h.tb,λj d b q=>by
 obtain⟨k,i,rfl,h1,h2⟩:=xh q;split at h2
 ·rename_i d' M e;cases h2
  obtain⟨v,g1,G⟩:=h.at' i _ _ e;exact⟨v,Iq h1 (by rw[g1];rfl),G⟩
 ·cases h2⟩
noncomputable def gU (tg:FG)(c:FT)(fe:FE)(ρ:Env):LD->Option LD
 |[]=>some []
 |d::r=>(tg d ρ).bind λG=>(c G).bind λb=>if b=true then (fe G).bind λx=>(gU tg c fe ρ r).map (x.1 :: ·)else gU tg c fe ρ r
@[simp] def Nu (tg:FG)(c:FT)(fe:FE)(ρ:Env):gU tg c fe ρ []=some []:=by rw[gU]
@[simp] def AH (tg:FG)(c:FT)(fe:FE)(ρ:Env)(d:D)(r:LD):gU tg c fe ρ (d::r)=(tg d ρ).bind λG=>(c G).bind λb=>if b=true then (fe G).bind λx=>(gU tg c fe ρ r).map (x.1 :: ·)else gU tg c fe ρ r:=by rw[gU]
@[simp] def bO (fi:FA)(nT:Nat)(cap:LN)(tg:FG)(c:FT)(fe:FE):FE:=λρ=>(fi ρ).bind λitems=>if items.length<=sizeLine then (gU tg c fe (dr nT cap ρ) items).map λds=>(.lst ds,true)else none
def Kx (K:Frag)(n:Nat)(tg:FG)(g:TG):Prop:=∀(B H:Hp)(σ:St)(ρ M:Env)(v:V)(d:D)(Q:St->Hp->Prop),(∀i,i<n->ρ[i]? = some none)->fU K B σ ρ->bc B H->Is K B v d->tg d ρ=some M ->
 ρ.length=σ.length->(∀G,fU K B G M->(∀O,fU K O σ ρ->fU K O G ρ)->ρ.length=G.length->Q G H)->g v σ H Q
def y0 {K:Frag}{n i:Nat}(hi:i<n):Kx K n (dF i) (jZ i):=by
 intro B H σ ρ O v d Q cl rep s h e hl k;cases e
 have M:i<σ.length:=by
  have:=(vV (cl i hi)).1;omega
 refine k _ ⟨rep.tb,λj e b q=>?_⟩ ?_ (by simpa using hl)
 ·rcases cj q with⟨rfl,p⟩|⟨ne,p⟩
  ·cases p
   exact⟨v,by simp[M],h⟩
  ·obtain⟨w,h1,h2⟩:=rep.at' j e b p;exact⟨w,by rw[vB ne];exact h1,h2⟩
 ·intro T G;refine⟨G.tb,λj e b q=>?_⟩;obtain⟨w,h1,h2⟩:=G.at' j e b q;have ne:i≠j:=λz=>by subst z;rw[cl i hi]at q;cases q
  exact⟨w,by rw[vB ne];exact h1,h2⟩
def JC (X:Cx)(G:QD)(c:FT):Prop:=∀(ah:AO)(s:Shared)(σ:St)(H:Hp)(Q:Bool->Hp->Prop),Inv X ah σ H s->BJ X.K c σ H Q ->
 wq X (forIn G true λc r=>if r=true then do let ok ←isTrue c X.env (eval c X.env);pure (ForInStep.yield ok)else pure (ForInStep.yield r)) (TP X ah σ Q) X.xe s
@[simp] noncomputable def gF:FT:=λ_=>some true
def gO:JC X [] gF:=by
 intro ah s σ H Q I h;obtain⟨B,ρ,c,G,rep,e,q⟩:=h;cases e
 exact wpAny_tests_nil ⟨H,I,q H (.refl H)⟩
def dY (h:JT X e f):JC X [e] f:=λah s σ H Q I q=>wpAny_tests_one (h ah s σ H Q I q)
inductive CI (Y:Cx)(tn:Nat->Heap->Prop)(fp:List Addr)(N1 H2:Hp)(κ:Env)(a:Addr)(l:List D->Option (List D))(items ds:List D)(s:Shared):Nat->Prop
 |mk (i:Nat) (N:Hp) (vs:List V) (es r:List D) (σ:St) (H:Hp) (I:Inv Y [] σ H s) (ti:tn i s.heap) (hn:∀b∈fp,H b=none) (hi:i<=items.length) (rp:fU Y.K N1 σ κ) (hl:κ.length=σ.length)
   (x:Ext N1 N H2 H) (n0:N a=none) (h0:H a=some (.lst vs)) (vl:vs.length<=i) (iv:IsL Y.K N vs es) (er:l (items.drop i)=some r) (ed:es++r=ds):CI Y tn fp N1 H2 κ a l items ds s (items.length - i)
def Ext.both (x:Ext N1 N H2 H)(y:Ext N1 N' H H'):Ext N (join N N') H H'/\bc N' (join N N'):=by
 refine⟨⟨y.hh,fy,λa o e=>?_,λa o e=>?_⟩,λa o e=>?_⟩
 ·cases z:N a with
  |some G=>rw[fy _ _ z]at e;cases e;exact y.hh _ _ (x.nh _ _ z)
  |none=>rw[eN z]at e;exact y.nh _ _ e
 ·cases z:N a with
  |some G=>rw[fy _ _ z]at e;cases e;exact .inl rfl
  |none=>
   rw[eN z]at e;exact(y.new a o e).elim (λM=>by rw[x.bn _ _ M]at z;cases z) .inr
 ·exact(y.new a o e).elim (λz=>fy _ _ (x.bn _ _ z)) λz=>by rw[eN (x.nh.free z)];exact e
def Ext.off (x:Ext B N H H')(h:B a=none)(h':H a=some o):N a=none:=by
 cases z:N a with
 |none=>rfl
 |some u=>
  rcases x.new _ _ z with z|z
  ·rw[h]at z;cases z
  ·rw[h']at z;cases z
def D2 {Y:Cx}(O:Y.calm=true)(hE:∀x s,¬Y.xe x s)(hg:PG Y tg g)(P2:Kx Y.K nT qq g)(hc:JC Y B7 fc)(he:JE Y yg fe)(T:Turn Y.prog Y.w Y.K tg J fp it tn)(P4:∀i,i<nT->κ[i]? = some none)
  (J1:om Y.K J N1 items) (hsz:items.length<=sizeLine) (hD:H2 a=none) (RW:∀H',(∀b∈fp,H' b=none)->∀b∈fp,lZ Y [] H' b)
  (hR:∀s4 M H' N vs,Inv Y [] M H' s4->Ext N1 N H2 H'->N a=none->H' a=some (.lst vs)->IsL Y.K N vs ds->R (.ok .next) s4) (h:CI Y tn fp N1 H2 κ a (gU qq fc fe κ) items ds s items.length):
  codeAny (model Y.prog Y.w) Y.A (.compLoop (.ListComp yg [⟨tg,gA,B7,0⟩] scope pos) 0 (.ref it) (.ref a) Y.env) R s:=by
 refine xg hE (λn s=>CI Y tn fp N1 H2 κ a (gU qq fc fe κ) items ds s n) (λn s' h=>?_) _ h;obtain⟨i,N,vs,es,r,M,H',I',ti,hn,hi,rp,lq,x,Q4,P5,MV,P7,er,Q5⟩:=h;have sH:bc N1 H':=x.bn.trans x.nh;by_cases yj:i<items.length
 ·obtain⟨go,yl⟩:=(J1 i H' sH).1 items[i] (by simp[yj]);refine c9 (T.item Y rfl rfl rfl O i [] s' M H' Y.xe I' (RW _ hn) ti go) λq s4 ⟨u,eu,hq⟩=>?_;subst eu;refine c9 hq λ_ s5 ⟨xv,H5,I5,rx,y5,t5,RQ⟩=>?_;obtain⟨N5,x5,i5⟩:=yl xv H5 y5;obtain⟨x6,c5⟩:=x.both x5;have TH:(join N N5) a=none:=x6.off Q4 P5;have Q6:bc (join N N5) H5:=x6.nh;rw[List.drop_eq_getElem_cons yj]at er;unfold gU at er;obtain⟨ρ1,e1,er⟩:=oX er;obtain⟨b,e2,er⟩:=oX er;have jv:∀(s9:Shared)(U:St)(H9 N9:Hp)(P8:LV)(Q8 r9:LD),Inv Y (oh fp s5.heap) U H9 s9->fU Y.K N1 U κ->κ.length=U.length->Ext N1 N9 H2 H9->N9 a=none->H9 a=some (.lst P8) ->
    P8.length<=i+1->IsL Y.K N9 P8 Q8->gU qq fc fe κ (items.drop (i+1))=some r9->Q8++r9=ds->∃m,m<items.length - i/\CI Y tn fp N1 H2 κ a (gU qq fc fe κ) items ds s9 m:=λs9 U H9 N9 P8 Q8 r9 I9 VV l9 x9 n9 h9 v9 i9 VW VX=>
   ⟨_,by omega,i+1,N9,P8,Q8,r9,U,H9,I9.pins_of λp hp=>by simp at hp,T.keep _ _ _ t5 λb hb o e=>(I9.pin (b,o) (mY _ (jJ hb e))).1,λb hb=>by
    obtain⟨o,e,d⟩:=T.obj _ _ t5 b hb;exact(I9.pin (b,o) (mY _ (jJ hb e))).2.1,yj,VV,l9,x9,n9,h9,v9,i9,VW,VX⟩
  refine c9 (hg (oh fp s5.heap) s5 M H5 xv u (λG H6=>H6=H5/\fU Y.K (join N N5) G ρ1/\fU Y.K N1 G κ/\κ.length=G.length) (I5.pinned (RW _ RQ) (T.obj _ _ t5)) rx
   (P2 (join N N5) H5 M κ ρ1 xv items[i] _ P4 (rp.mono (x.bn.trans fy)) Q6 (i5.mono c5) e1 lq λσ1 r1 r2 l1=>⟨rfl,r1,r2 N1 rp,l1⟩)) λ_ s6 ⟨G,H6,I6,eH,TJ,TK,l6⟩=>?_
  subst eH;have RX:H6 a=some (.lst vs):=x5.hh _ _ P5;refine c9 (hc _ s6 G H6 (λc H7=>c=b/\bc H6 H7) I6 ⟨join N N5,ρ1,b,Q6,TJ,e2,λH7 h7=>⟨rfl,h7⟩⟩) λok s7 ⟨H7,I7,eb,h7⟩=>?_;subst eb;have x7:Ext N1 (join N N5) H2 H7:=(x.trans x6).trans (.grow Q6 h7);cases ok with
  |false=>
   rw[if_neg (by decide)]at er ⊢;exact jv s7 G H7 (join N N5) vs es r I7 TK l6 x7 TH (h7 _ _ RX) (le_succ_of_le MV) (P7.mono fy) er Q5
  |true=>
   rw[if_pos rfl]at er ⊢;obtain⟨y,e3,er⟩:=oX er;obtain⟨r',e4,er⟩:=oY er;subst er;refine c9 (he _ s7 G H7 (λv H8=>∃N8,Ext (join N N5) N8 H7 H8/\Is Y.K N8 v y.1) I7 ⟨join N N5,ρ1,y.1,y.2,Q6.trans h7,TJ,e3,λv H8 N8 x8 i8 _=>⟨N8,x8,i8⟩⟩) λw8 s8 ⟨v8,H8,I8,r8,N8,x8,i8⟩=>?_;refine c9 (u0 _ s8 G H8 (.ref a) [v8] (.ref a) [w8] (λ_ H9=>H9=upd H8 a (.lst (vs++[v8]))) I8 rfl (.cons r8 .nil) ⟨_,vs,v8,rfl,rfl,x8.hh _ _ (h7 _ _ RX),by omega,rfl⟩) λ_ s9 ⟨_,H9,I9,_,e9⟩=>?_;subst e9;have TL:=x8.off TH (h7 _ _ RX);exact jv s9 G _ N8 (vs++[v8]) (es++[y.1]) r' I9 TK l6 ((x7.trans x8).upd hD TL) TL aC (by rw[uZ,length_singleton];omega) ((P7.mono (fy.trans x8.bn)).append (.cons i8 .nil)) e4 (by rw[append_assoc];exact Q5)
 ·obtain rfl:i=items.length:=by omega
  rw[List.drop_eq_nil_of_le (vT _)]at er;cases er
  rw[uQ]at Q5;subst Q5;refine c9 (T.done Y rfl rfl rfl O items.length [] s' M H' Y.xe I' (RW _ hn) ti ((J1 _ H' sH).2 (vT _))) λq s4 ⟨hq,I9⟩=>?_;subst hq;exact hR s4 M H' N vs I9 x Q4 P5 P7
def qA {X:Cx}(P9:X.calm=true){tg gA yg:Expr}{B7:QD}{scope:Scope}{pos:Pos}{cl:List (Str×Addr)}{N':LS}{nT:Nat}{cap:LN}{qq:FG}{g:TG}{fc:FT}{fe:FE}
  (S:CompSc X scope cl) (cp:nZ X N' scope cl nT cap)
  (hg:∀C s H fp,PG (jg X N' scope cl C s H fp) tg g) (P2:Kx X.K nT qq g) (hc:∀C s H fp,JC (jg X N' scope cl C s H fp) B7 fc) (he:∀C s H fp,JE (jg X N' scope cl C s H fp) yg fe)
  {ah:AO}{σ:St}{H2:Hp}{s2:Shared}{it:Addr}{fp:List Addr}{tn:Nat->Heap->Prop}{J:It}{N1:Hp}{ρ:Env}{items ds:LD}{E:QV}
  (I2:Inv X ah σ H2 s2) (T:Turn X.prog X.w X.K tg J fp it tn) (Kf:tn 0 s2.heap) (f2:∀b∈fp,lZ X ah H2 b)
  (rep:fU X.K N1 σ ρ) (sN:bc N1 H2) (J1:om X.K J N1 items) (hsz:items.length<=sizeLine) (ec:gU qq fc fe (dr nT cap ρ) items=some ds) {RR:Value->Addr->Result->Shared->Prop}
  (VY:∀(Dd C:Addr)(s':Shared)(H' N:Hp)(vs:LV)(m:SV),H2 Dd=none->Inv X ah σ H' s'->s'.heap.Ns C m->lZ X ah H' C->Ext N1 N H2 H'->N Dd=some (.lst vs)->IsL X.K N vs ds->RR (.ref Dd) C (.ok .next) s'):
  wq X (newList []) (λAs U=>wq X (newFunctionEnv scope X.env.globals cl [] X.env.qual none .none (some X.env)) (λPB s₄=>
   codeAny (model X.prog X.w) X.A (.compStart (.ListComp yg [⟨tg,gA,B7,0⟩] scope pos) 0 (.ref it) As { PB with scope:=relabel scope X.env }) (RR As PB.locals) s₄) E U) E s2:=by
 refine wpAny_newObj_type (wpAny_newFunctionEnv S.nocell (by intro y hy;simp at hy) (λh₁ M O=>?_) S.kind);dsimp only at M O ⊢;have hD:H2 s2.heap.objs.size=none:=I2.fresh;have I3:Inv X ah σ (upd H2 s2.heap.objs.size (.lst [])) { s2 with heap:=s2.heap.push { cls:=.type "list",dict:=none,data:=.seq ([]:LU).toArray } }:=I2.lnew (t':=s2.toks) (ys:=[]) (its:=[]) .nil (uN _);generalize hH3:s2.heap.push { cls:=.type "list",dict:=none,data:=.seq ([]:LU).toArray }=g3 at M O I3 ⊢;have hC:g3.objs.size=s2.heap.objs.size+1:=by rw[←hH3,Heap.size_push]
 have Ki:∀b o,s2.heap.get? b=some o->g3.get? b=some o:=λb o e=>hH3 ▸ vZ _ e;have G:∀b o,g3.get? b=some o->h₁.get? b=some o:=λb o e=>O.extBut b o (vS (vX e)) (vZ _ e);have VZ:∀b o,g3.get? b=some o->b≠g3.objs.size:=λb o e=>vS (vX e);have TM:∀b∈fp,∃o,s2.heap.get? b=some o:=λb hb=>let ⟨o,e,_⟩:=T.obj 0 s2.heap Kf b hb;⟨o,e⟩;have Wa:∀b∈fp,b≠s2.heap.objs.size:=λb hb=>let ⟨o,e⟩:=TM b hb;vS (vX e);have TN:∀b∈fp,b≠g3.objs.size:=λb hb=>let ⟨o,e⟩:=TM b hb;VZ b o (Ki b o e);have TQ:∀x c,X.env.cells.lookup x=some c->c≠g3.objs.size:=λx c e=>by
  obtain⟨v,z⟩:=I3.cell x c e;exact vS z.lt
 have Wb:(upd H2 s2.heap.objs.size (HO.lst [])) g3.objs.size=none:=I3.hok.fresh (vT _);have stk:∀b∈Ey X.stack,∃o,s2.heap.get? b=some o:=λb hb=>by
  obtain⟨_,o,ho,_⟩:=(I2.stack).mem hb;exact⟨o,ho⟩
 -- the block's context
 let Y:Cx:=jg X N' scope cl g3.objs.size { s2 with heap:=g3 } (upd H2 s2.heap.objs.size (.lst [])) fp;have ok:Y.Ok:=by
  refine⟨I2.ok.mod,?_,I2.ok.glob,I2.ok.blt,vT _,λx y c e1 e2=>I2.ok.inj x y c (S.sub x c e1) (S.sub y c e2),λx h=>S.has x h,λx c h=>absurd h uX,I2.ok.hd,I2.ok.frames,.inl rfl,λb hb=>⟨TN b hb,λx c e=>(f2 b hb).2.2.2.2.1 x c (S.sub x c e)⟩,λb o e=>?_,?_,λb o e hb=>?_,λb hb hz=>?_,I3.stack,λb hb=>I3.stkFree b hb⟩
  ·show(relabel scope X.env).kind=.function;exact S.kind
  ·exact I3.bs b o e
  ·exact vR I3.ok.bsz I3.sz
  ·have h1:=(f2 b hb).2.2.2.1;rcases h1 with z|z
   ·exact I2.ok.noex b o e z
   ·exact absurd (vQ (vX e) (vR I2.ok.bsz z)) (Nat.lt_irrefl _)
  ·rcases vP (I2.stkSub b hz)with z|z
   ·exact(f2 b hb).2.1 z
   ·exact(f2 b hb).2.2.1 z
 have I4:Inv Y [] (uc nT cap σ) (upd H2 s2.heap.objs.size (.lst [])) { s2 with heap:=h₁,toks:=s2.toks+([]:List (Str×Value)).length }:=by
  refine⟨ok,rfl,I2.bare,Un.kept G,⟨_,M,λj x v e1 e2 e3=>?_⟩,λx c e=>?_,Wb,λx c e=>I3.freeC x c (S.sub x c e),λp hp=>absurd (show p∈[]from hp) not_mem_nil,I3.hok.kept G,?_⟩
  ·obtain⟨k,i,rfl,h1,h2⟩:=xh e2;obtain⟨y,g1,g2,TR,g4,g5⟩:=cp.get h1;have TU:N'[nT+k]? = some x:=e1;rw[g1]at TU;cases TU;have RU:σ[i]? = some (some v):=by
    cases q:σ[i]? with
    |none=>rw[q]at h2;cases h2
    |some z=>rw[q]at h2;have:z=some v:=h2;rw[this]
   obtain⟨m,_,hl⟩:=I3.loc;obtain⟨u,r,l⟩:=hl i _ v g2 RU (TR.elim (λz=>.inr (.inl z)) λz=>.inr (.inr z));refine⟨u,r,?_⟩;rcases l with⟨l,_⟩|⟨_,c,lc,ic⟩
   ·rcases TR with z|z<;>(rw[z]at l;cases l)
   ·refine .inr ⟨g4,c,by show cl.lookup _=some c;rw[g5];exact lc,?_⟩;obtain⟨o,ho,hd⟩:=ic;exact⟨o,G _ _ ho,hd⟩
  ·obtain⟨v,o,ho,hd⟩:=I3.cell x c (S.sub x c e);exact⟨v,o,G _ _ ho,hd⟩
  ·show(uc nT cap σ).length=N'.length;unfold uc;rw[cp.len];simp
 have loop:∀U:Shared,U={ s2 with heap:=h₁,toks:=s2.toks+([]:List (Str×Value)).length }->codeAny (model Y.prog Y.w) Y.A (.compLoop (.ListComp yg [⟨tg,gA,B7,0⟩] scope pos) 0 (.ref it) (.ref s2.heap.objs.size) Y.env) (RR (.ref s2.heap.objs.size) g3.objs.size) U:=by
  rintro U rfl;refine D2 (Y:=Y) P9 (λ_ _ z=>z) (hg _ _ _ _) P2 (hc _ _ _ _) (he _ _ _ _) T (λi hi=>?_) J1 hsz hD (λH' hn b hb=>⟨hn b hb,TN b hb,ok.exfs b hb,.inl hb,λx c e=>(f2 b hb).2.2.2.2.1 x c (S.sub x c e),λp hp=>absurd (show p∈[]from hp) not_mem_nil⟩) (λs4 σ' H' N vs I9 x Q4 P5 P7=>?_)
   ⟨0,N1,[],[],ds,uc nT cap σ,_,I4,T.keep _ _ _ Kf λb hb o e=>G _ _ (Ki _ _ e),λb hb=>?_,uN _,rep.caps,?_,(Ext.refl sN).upd hD (sN.free hD),sN.free hD,aC,uN _,.nil,by simpa using ec,rfl⟩
  ·unfold dr;rw[getElem?_append_left (by simpa using hi),getElem?_replicate,if_pos hi]
  ·obtain⟨m,hm,_⟩:=I9.loc;have k:bc N (upd N s2.heap.objs.size (.lst vs)):=λa o e=>by rw[aG (λz=>by subst z;rw[Q4]at e;cases e)];exact e
   refine VY s2.heap.objs.size g3.objs.size s4 H' (upd N s2.heap.objs.size (.lst vs)) vs m hD (I2.call' (ch:=fp) I9.os ((Un.laid Ki (vT _) hD).trans I9.base) I9.hok I9.bare λb hb=>⟨(f2 b hb).2.2.2.1,(f2 b hb).2.1,(f2 b hb).2.2.2.2.1,(f2 b hb).2.2.2.2.2⟩) hm (I2.fpOk (by rw[hC];exact le_succ _) I9.free) ⟨x.hh,x.bn.trans k,λa o e=>?_,λa o e=>?_⟩ aC (P7.mono k)
   ·by_cases z:a=s2.heap.objs.size
    ·subst z;rw[aC]at e;cases e;exact P5
    ·rw[aG z]at e;exact x.nh _ _ e
   ·by_cases z:a=s2.heap.objs.size
    ·subst z;exact .inr hD
    ·rw[aG z]at e;exact x.new _ _ e
  ·rw[aG (Wa b hb)];exact(f2 b hb).1
  ·unfold dr uc;simp
 exact codeAny_compStart_list (loop _ rfl) (T.self _ 0 _ _ _ (T.keep _ _ _ Kf λb hb o e=>G _ _ (Ki _ _ e)) (loop _ rfl))
def Ir (G:X.calm=true) 
  (S:CompSc X scope cl) (cp:nZ X N' scope cl nT cap) (hi:JI X tg gA fi)
  (hg:∀C s H fp,PG (jg X N' scope cl C s H fp) tg g) (O:Kx X.K nT qq g) (hc:∀C s H fp,JC (jg X N' scope cl C s H fp) B7 fc) (he:∀C s H fp,JE (jg X N' scope cl C s H fp) yg fe)
  (hs:∀x,foldedSetIterable gA X.env x=pure x:=by intro _;rfl):
  JE X (.ListComp yg [⟨tg,gA,B7,0⟩] scope pos) (bO fi nT cap qq fc fe):=by
 intro ah s σ H Q I h;obtain⟨B,ρ,d,b,sB,rep,e,q⟩:=h;obtain⟨items,ei,e⟩:=oX e;have hsz:items.length<=sizeLine:=Decidable.byContradiction λz=>by rw[if_neg z]at e;cases e
 rw[if_pos hsz]at e;obtain⟨ds,ec,e⟩:=oY e;cases e
 rw[eval_ListComp];refine wpAny_comprehension_free (use:=none) rfl hs S.clos S.kind S.names (c9 (hi ah s σ H (λJ H2=>∃N1,Ext B N1 H H2/\om X.K J N1 items) I ⟨B,ρ,items,sB,rep,ei,λJ H2 N1 M U=>⟨N1,M,U⟩⟩) λv s1 h1=>c9 h1 λTC s2 h2=>?_);obtain⟨it,fp,tn,J,H2,e,I2,T,Kf,f2,N1,M,U⟩:=h2;subst e;refine qA G S cp hg O hc he I2 T Kf f2 (rep.mono M.bn) M.nh U hsz ec (RR:=λAs C=>compPost (model X.prog X.w) X.A X.xe none (EP X ah σ Q) As C) ?_;intro Dd C s' H' N vs m hD I' hm fC x hN hl;refine⟨m,hm,λh' hs'=>⟨.ref Dd,H',?_,rfl,q _ H' N (M.trans x) (.lst (iQ.of hN) hl) λ_=>⟨Dd,vs,ds,rfl,rfl,M.hh.free hD,hN,hl⟩⟩⟩;obtain⟨c0,c1,c2,c3,c4,c5⟩:=fC;exact I'.turned (t':=s'.toks) (λb o hb e=>(hs'.2 b hb).trans e) c0 c1 c3 c4 c5
def Iu (M:X.calm=true) 
  (hN:X.N.Nodup) (Wc:X.N[i]? = some y) (hy:X.env.kindOf y=some .local)
  (Wd:swapsWith (.ListComp yg [⟨tg,G,O,0⟩] scope pos) (some (.Name y py)) spos.line X.env=pure true)
  (S:CompSc X scope cl) (cp:nZ X N' scope cl nT cap) (hi:JI X tg G fi)
  (hg:∀C s H fp,PG (jg X N' scope cl C s H fp) tg g) (P2:Kx X.K nT qq g) (hc:∀C s H fp,JC (jg X N' scope cl C s H fp) O fc) (he:∀C s H fp,JE (jg X N' scope cl C s H fp) yg fe)
  (hs:∀x,foldedSetIterable G X.env x=pure x:=by intro _;rfl):
  JS X (.Assign [.Name y py] (.ListComp yg [⟨tg,G,O,0⟩] scope pos) spos) (aX i (bO fi nT cap qq fc fe)):=by
 intro ah s σ H E I h;have h2:Dk (tD X.K (bO fi nT cap qq fc fe)) (jZ i) E σ H:=BK h;obtain⟨B,ρ,d,b,sB,rep,e,q⟩:=h2;obtain⟨items,ei,e⟩:=oX e;have hsz:items.length<=sizeLine:=Decidable.byContradiction λz=>by rw[if_neg z]at e;cases e
 rw[if_pos hsz]at e;obtain⟨ds,ec,e⟩:=oY e;cases e
 rw[exec_Assign_Name_used _ _ _ _ Wd];refine wX (wpAny_standAt (wX ?_));show wpAny _ _ (do let _ ←comprehension (.ListComp yg [⟨tg,G,O,0⟩] scope pos) scope X.env _ (newList []) false (eval G X.env) (some (assign (.Name y py) X.env))) _ _ s;refine wX (wpAny_mono (wpAny_comprehension_free (use:=some (assign (.Name y py) X.env)) (Q:=λ_ s'=>SP X ah E .next s') rfl hs S.clos S.kind S.names
  (c9 (hi ah s σ H (λJ H2=>∃N1,Ext B N1 H H2/\om X.K J N1 items) I ⟨B,ρ,items,sB,rep,ei,λJ H2 N1 U j1=>⟨N1,U,j1⟩⟩) λv s1 h1=>c9 h1 λTC s2 h2=>?_)) (λ_ s' hq=>wY (wY hq)) λ_ _ e=>e)
 obtain⟨it,fp,tn,J,H2,e,I2,T,Kf,f2,N1,U,j1⟩:=h2;subst e;refine qA M S cp hg P2 hc he I2 T Kf f2 (rep.mono U.bn) U.nh j1 hsz ec (RR:=λAs C=>compPost (model X.prog X.w) X.A X.xe (some (assign (.Name y py) X.env)) (λ_ s'=>SP X ah E .next s') As C) ?_;intro Dd C s' H' N vs m hD I' hm fC x TV hl;show wpAny _ _ (assign (.Name y py) X.env (.ref Dd)) _ _ s';obtain⟨c0,c1,c2,c3,c4,c5⟩:=fC;refine wpAny_assign_Name (ut I' hN Wc (.inl hy) (r:=show bd (.ref Dd) (.ref Dd)from rfl) (λs9 I9 ⟨a,sb,ha⟩=>?_) (.inr hy));have nC:C≠a:=by
  rcases ha with z|z
  ·rw[z];exact c1
  ·exact λw=>c4 y a z w.symm
 refine⟨m,hm.sameBut sb nC,λh' hs'=>⟨_,H',?_,q _ H' N (U.trans x) (.lst (iQ.of TV) hl) λ_=>⟨Dd,vs,ds,rfl,rfl,U.hh.free hD,TV,hl⟩⟩⟩;exact I9.turned (t':=s9.toks) (λb o hb e=>(hs'.2 b hb).trans e) c0 c1 c3 c4 c5
section
variable {X:Cx}{a b c e:Expr}{pos:Pos}
def PE.to (h:PE X e t)(k:∀σ H Q,t' σ H Q->t σ H Q):PE X e t':=λah s σ H Q I q=>h ah s σ H Q I (k σ H Q q)
def PT.to (h:PT X e t)(k:∀σ H Q,t' σ H Q->t σ H Q):PT X e t':=λah s σ H Q I q=>h ah s σ H Q I (k σ H Q q)
def PW.to (h:PW X e t)(k:∀σ H Q,t' σ H Q->t σ H Q):PW X e t':=λG ah s σ H Q I q=>h G ah s σ H Q I (k σ H Q q)
def PA.to (h:PA X es t)(k:∀σ H Q,t' σ H Q->t σ H Q):PA X es t':=λpos ah s σ H Q I q=>h pos ah s σ H Q I (k σ H Q q)
def PS.to {st:Stmt}{t t':TS}(h:PS X st t)(k:∀E σ H,t' E σ H->t E σ H):PS X st t':=λah s σ H E I q=>h ah s σ H E I (k E σ H q)
def tY.to {st:List Stmt}{t t':TS}(h:tY X st t)(k:∀E σ H,t' E σ H->t E σ H):tY X st t':=λah s σ H E I q=>h ah s σ H E I (k E σ H q)
def PI.to (h:PI X tg it t)(k:∀σ H Q,t' σ H Q->t σ H Q):PI X tg it t':=λah s σ H Q I q=>h ah s σ H Q I (k σ H Q q)
def D3 {K:Frag}{d:D}{v:V}(i:∀B,Is K B v d){σ:St}{H:Hp}{Q:VK}(h:tD K (fC d) σ H Q):tC v σ H Q:=by
 obtain⟨B,ρ,d',b,s,r,e,q⟩:=h;cases e
 exact q.one s (i B)
def pv (M:X.N[i]? = some x:=by rfl)(hv:Nk X.env.scope x:=by first|exact Or.inl rfl|exact Or.inr (Or.inl rfl)|exact Or.inr (Or.inr rfl))(hd:(x == ("__debug__" : Str))=false:=by decide)
  (G:(x == ("__classdict__" : Str))=false:=by decide):PE X (.Name x pos) (pP i):=wM M hv hd G
def ak (i:Nat)(G:PE X (.Name x pos) (pP i):=by exact pv):JE X (.Name x pos) (am i):=PE.to G λ_ _ _ h=>LL h
def a9:JE X (.Constant (.int i) j pos) (fC (.int i)):=PE.to Lc λ_ _ _ h=>D3 (λ_=>.int i) h
def cP:JE X (.Constant (.bool i) j pos) (fC (.bl i)):=PE.to NP λ_ _ _ h=>D3 (λ_=>.bl i) h
def cz:JE X (.Constant .none j pos) (fC .non):=PE.to Ld λ_ _ _ h=>D3 (λ_=>.non) h
def a7:JE X (.Constant (.str x) j pos) (fC (.str x)):=PE.to Le λ_ _ _ h=>D3 (λ_=>.str x) h
def Iv (G:Gl X x)(hm:X.mg x=some u)(r:bd v u)(i:∀B,Is X.K B v d)(hd:(x == ("__debug__" : Str))=false:=by decide):JE X (.Name x pos) (fC d):=PE.to (qc G hm r hd) λ_ _ _ h=>D3 i h
def bg (G:dQ X (binaryOp op) (rD X.K f))(ha:JE X a fa)(hb:JE X b fb):JE X (.BinOp a op b pos) (f2 f fa fb):=PE.to (Of G ha hb) λ_ _ _ h=>Ih h
def O4 (G:Oe X (unaryOp op) (Rf X.K f))(ha:JE X a fa):JE X (.UnaryOp op a pos) (f1 f fa):=PE.to (Og G ha) λ_ _ _ h=>Rg h
def bI (G:dQ X (compareOp op) (rD X.K f))(ha:JE X a fa)(hb:JE X b M)(hm:behindInMarks op b=false:=by first|exact ko _ (by decide) (by decide)|rfl):JE X (.Compare a [op] [b] pos) (f2 f fa M):=PE.to (HS G ha hb hm) λ_ _ _ h=>Ih h
def xi {K:Frag}{f:FE}{σ:St}{H:Hp}{Q:Bool->Hp->Prop}(h:BJ K (aW f) σ H Q):tD K f σ H λx H'=>∃k,x=.bl k/\Q k H':=by
 obtain⟨B,ρ,c,s,r,e,q⟩:=h;unfold aW at e;split at e
 ·rename_i O G M;cases e
  refine⟨B,ρ,.bl c,G,s,r,M,λv H' N x i _=>?_⟩;cases i
  exact⟨c,rfl,q H' x.hh⟩
 ·cases e
def aB (G:dQ X (compareOp op) (rD X.K f))(ha:JE X a fa)(hb:JE X b fb)(hm:behindInMarks op b=false:=by first|exact ko _ (by decide) (by decide)|rfl):JT X (.Compare a [op] [b] pos) (aW (f2 f fa fb)) :=
 PT.to (BB G ha hb hm) λ_ _ _ h=>Ih (xi h)
def bx (h:JE X e f)(he:∀G,isTrue e X.env G=(do let v ←G;standAt e.pos;holding [v] (truthy v)):=by intro _;rfl):JT X e (aW f):=PT.to (Lh h he) λ_ _ _ q=>xi q
@[simp] noncomputable def ib (f g:D->D->OB)(fa G M:FE):FE:=λρ=>(fa ρ).bind λx=>(G ρ).bind λy=>match f x.1 y.1 with
 |some (.bl true,_)=>(M ρ).bind λz=>g y.1 z.1
 |some (.bl false,_)=>some (.bl false,false)
 |_=>none
def y4 {K:Frag}{f g:D->D->OB}{fa fb fc:FE}{σ:St}{H:Hp}{Q:VK}(h:tD K (ib f g fa fb fc) σ H Q):A5 (rD K f) (rD K g) (tD K fa) (tD K fb) (tD K fc) σ H Q:=by
 obtain⟨B,ρ,d,b,s,r,e,q⟩:=h;obtain⟨x,ex,e⟩:=oX e;obtain⟨y,ey,e⟩:=oX e;refine⟨B,ρ,x.1,x.2,s,r,ex,λv H1 N1 O i1 _=>⟨N1,ρ,y.1,y.2,O.nh,r.mono O.bn,ey,λv2 H2 N2 G i2 _=>?_⟩⟩;split at e
 ·rename_i T U;obtain⟨z,ez,e⟩:=oX e;refine⟨N2,x.1,y.1,.bl true,T,G.nh,i1.mono G.bn,i2,U,λv3 H3 N3 M i3 _=>?_⟩;cases i3
  refine⟨true,rfl,?_⟩;rw[if_pos rfl];refine⟨N3,ρ,z.1,z.2,M.nh,r.mono (O.bn.trans (G.bn.trans M.bn)),ez,λv4 H4 N4 x4 i4 _=>⟨N4,y.1,z.1,d,b,x4.nh,i2.mono (M.bn.trans x4.bn),i4,e,?_⟩⟩;exact q.into ((O.trans G).trans (M.trans x4))
 ·rename_i T U;cases e
  refine⟨N2,x.1,y.1,.bl false,T,G.nh,i1.mono G.bn,i2,U,λv3 H3 N3 M i3 _=>?_⟩;cases i3
  refine⟨false,rfl,?_⟩;rw[if_neg (by decide)];exact(q.into ((O.trans G).trans M)).one M.nh (.bl false)
 ·cases e
def qB (M:dQ X (compareOp op) (rD X.K f))(G:dQ X (compareOp PD) (rD X.K g))(ha:JE X a fa)(hb:JE X b fb)(hc:JE X c fc)
  (hm:lastMarks [op,PD] [b,c]=false:=by with_unfolding_all rfl):JE X (.Compare a [op,PD] [b,c] pos) (ib f g fa fb fc):=PE.to (EE M G ha hb hc hm) λ_ _ _ h=>y4 h
def y6 (M:dQ X (compareOp op) (rD X.K f))(G:dQ X (compareOp PD) (rD X.K g))(ha:JE X a fa)(hb:JE X b fb)(hc:JE X c fc)
  (hm:lastMarks [op,PD] [b,c]=false:=by with_unfolding_all rfl):JT X (.Compare a [op,PD] [b,c] pos) (aW (ib f g fa fb fc)):=PT.to (EF M G ha hb hc hm) λ_ _ _ h=>y4 (xi h)
def Iw {K:Frag}{f g:FT}{σ:St}{H:Hp}{Q:Bool->Hp->Prop}(h:BJ K (dm f g) σ H Q):NQ (BJ K f) (BJ K g) σ H Q:=by
 obtain⟨B,ρ,c,s,r,e,q⟩:=h;unfold dm at e;cases G:f ρ with
 |none=>rw[G]at e;cases e
 |some k=>
  rw[G]at e;refine⟨B,ρ,k,s,r,G,λM h1=>?_⟩;cases k with
  |true=>rw[if_pos rfl];exact⟨B,ρ,c,s.trans h1,r,e,λH2 h2=>q H2 (h1.trans h2)⟩
  |false=>rw[if_neg (by decide)];cases e;exact q M h1
def LQ {K:Frag}{f g:FT}{σ:St}{H:Hp}{Q:Bool->Hp->Prop}(h:BJ K (dR f g) σ H Q):SU (BJ K f) (BJ K g) σ H Q:=by
 obtain⟨B,ρ,c,s,r,e,q⟩:=h;unfold dR at e;cases G:f ρ with
 |none=>rw[G]at e;cases e
 |some k=>
  rw[G]at e;refine⟨B,ρ,k,s,r,G,λM h1=>?_⟩;cases k with
  |false=>rw[if_neg (by decide)];exact⟨B,ρ,c,s.trans h1,r,e,λH2 h2=>q H2 (h1.trans h2)⟩
  |true=>rw[if_pos rfl];cases e;exact q M h1
def Ix {K:Frag}{f:FT}{σ:St}{H:Hp}{Q:Bool->Hp->Prop}(h:BJ K (cx f) σ H Q):NR (BJ K f) σ H Q:=by
 obtain⟨B,ρ,c,s,r,e,q⟩:=h;obtain⟨k,ek,e⟩:=oY e;subst e;exact⟨B,ρ,k,s,r,ek,λG h1=>q G h1⟩
variable {ay:QD}
def fL (ha:JT X a f):JW X (.BoolOp .And [a] pos) f:=HK ha
def cX (ha:JT X a f):JW X (.BoolOp .Or [a] pos) f:=Li ha
def ie (ha:JT X a f)(hb:JW X (.BoolOp .And (b::ay) pos) g):JW X (.BoolOp .And (a::b::ay) pos) (dm f g):=PW.to (Lj ha hb) λ_ _ _ h=>Iw h
def dG (ha:JT X a f)(hb:JW X (.BoolOp .Or (b::ay) pos) g):JW X (.BoolOp .Or (a::b::ay) pos) (dR f g):=PW.to (NS ha hb) λ_ _ _ h=>LQ h
def fB (h:JW X e f):JT X e f:=h.pt
def cn (ha:JT X a f):JT X (.UnaryOp .Not a pos) (cx f):=PT.to (Lk ha) λ_ _ _ h=>Ix h
@[simp] noncomputable def gX (f g:FE):FE:=λρ=>match f ρ with|some (.bl true,_)=>g ρ|some (.bl false,_)=>some (.bl false,false)|_=>none
@[simp] noncomputable def Aw (f g:FE):FE:=λρ=>match f ρ with|some (.bl true,_)=>some (.bl true,false)|some (.bl false,_)=>g ρ|_=>none
@[simp] noncomputable def LR (f:FE):FE:=λρ=>match f ρ with|some (.bl c,_)=>some (.bl (!c),false)|_=>none
def du (ha:JE X a f)(hb:JE X (.BoolOp .And (b::ay) pos) g):JE X (.BoolOp .And (a::b::ay) pos) (gX f g):=PE.to (Lm ha hb) λσ H Q h=>by
 obtain⟨B,ρ,d,k,s,r,e,q⟩:=h;unfold gX at e;split at e
 ·rename_i O M;refine⟨B,ρ,_,_,s,r,M,λv T N1 G i1 _=>?_⟩;cases i1
  refine⟨true,rfl,?_⟩;rw[if_pos rfl];exact⟨N1,ρ,d,k,G.nh,r.mono G.bn,e,q.into G⟩
 ·rename_i O M;cases e
  refine⟨B,ρ,_,_,s,r,M,λv T N1 G i1 _=>?_⟩;cases i1
  refine⟨false,rfl,?_⟩;rw[if_neg (by decide)];exact(q.into G).one G.nh (.bl false)
 ·cases e
def mN (ha:JE X a f)(hb:JE X (.BoolOp .Or (b::ay) pos) g):JE X (.BoolOp .Or (a::b::ay) pos) (Aw f g):=PE.to (NV ha hb) λσ H Q h=>by
 obtain⟨B,ρ,d,k,s,r,e,q⟩:=h;unfold Aw at e;split at e
 ·rename_i O M;cases e
  refine⟨B,ρ,_,_,s,r,M,λv T N1 G i1 _=>?_⟩;cases i1
  refine⟨true,rfl,?_⟩;rw[if_pos rfl];exact(q.into G).one G.nh (.bl true)
 ·rename_i O M;refine⟨B,ρ,_,_,s,r,M,λv T N1 G i1 _=>?_⟩;cases i1
  refine⟨false,rfl,?_⟩;rw[if_neg (by decide)];exact⟨N1,ρ,d,k,G.nh,r.mono G.bn,e,q.into G⟩
 ·cases e
def c8 (h:JE X a f):JE X (.BoolOp op [a] pos) f:=Ll h
def LW (ha:JE X a f):JE X (.UnaryOp .Not a pos) (LR f):=PE.to (Ln ha) λσ H Q h=>by
 obtain⟨B,ρ,d,k,s,r,e,q⟩:=h;unfold LR at e;split at e
 ·rename_i c O M;cases e
  refine⟨B,ρ,_,_,s,r,M,λv T N1 G i1 _=>?_⟩;cases i1
  exact⟨c,rfl,(q.into G).one G.nh (.bl _)⟩
 ·cases e
variable {es:QD}
def ao:JA X [] aj:=PA.to jf λ_ _ _ h=>Ij h
def ai (ha:JE X e f)(G:JA X es g)(hs:starEach (e::es) X.env=(false,eval e X.env)::starEach es X.env:=by rfl):JA X (e::es) (ag f g):=PA.to (gB ha G hs) λ_ _ _ h=>Fa h
@[simp] noncomputable def bi:LD->OB:=λds=>if ds.length<=sizeLine then some (.tup ds,false)else none
@[simp] noncomputable def bS:LD->OB:=λds=>if ds.length<=sizeLine then some (.lst ds,true)else none
def bq {G}(h:JA X es f):JE X (.Tuple es G pos) (fA bi f):=PE.to (A8 h) λσ H Q q=>by
 obtain⟨B,ρ,ds,s,r,e,k⟩:=Ii q;refine⟨B,ρ,ds,s,r,e,λvs M N1 G i1=>?_⟩;obtain⟨O,T,d,b,s2,i2,e2,k2⟩:=k vs M N1 G i1;unfold bi at e2;split at e2
 ·rename_i hz;cases e2
  refine⟨by rw[i2.length];exact hz,λp hp=>k2 _ _ (upd O p (.tup vs)) (.laid s2 hp) (.tup (jt.of aC) (i2.mono (Ext.laid s2 hp).bn)) (by simp)⟩
 ·cases e2
def cB (h:JA X es f):JE X (.List es pos) (fA bS f):=PE.to (L5 h) λσ H Q q=>by
 obtain⟨B,ρ,ds,s,r,e,k⟩:=Ii q;refine⟨B,ρ,ds,s,r,e,λvs M N1 O i1=>?_⟩;obtain⟨T,G,d,b,s2,i2,e2,k2⟩:=k vs M N1 O i1;unfold bS at e2;split at e2
 ·rename_i hz;cases e2
  refine⟨by rw[i2.length];exact hz,λp hp=>k2 _ _ (upd T p (.lst vs)) (.laid s2 hp) (.lst (iQ.of aC) (i2.mono (Ext.laid s2 hp).bn)) λ_=>⟨p,vs,G,rfl,rfl,hp,aC,i2.mono (Ext.laid s2 hp).bn⟩⟩
 ·cases e2
end
section
variable {X:Cx}
def jK (h:dQ X f r)(k:∀x y H Q,r' x y H Q->r x y H Q):dQ X f r':=λah s σ H x y v u Q I G M q=>h ah s σ H x y v u Q I G M (k x y H Q q)
noncomputable def Hy (f g:D->D->OB):D->D->OB:=λx y=>match f x y with|some r=>some r|none=>g x y
def qC (h:dQ X s (rD X.K f))(h':dQ X s (rD X.K g)):dQ X s (rD X.K (Hy f g)):=by
 intro ah st σ H x y v u Q I G M q;obtain⟨B,dx,O,d,b,T,U,iy,e,q⟩:=q;unfold Hy at e;split at e
 ·rename_i r ef;cases e
  exact h ah st σ H x y v u Q I G M ⟨B,dx,O,_,_,T,U,iy,ef,q⟩
 ·exact h' ah st σ H x y v u Q I G M ⟨B,dx,O,_,_,T,U,iy,e,q⟩
@[simp] noncomputable def Ax (C:Int->Int->Bool)(g:Int->Int->D):D->D->OB
 |.int i,.int j=>if C i j=true then some (g i j,false)else none
 |_,_=>none
def xj (h:dQ X s (rI C g))(G:∀i j,C' i j=true->C i j)(M:∀i j B,Is X.K B (g i j) (g' i j)):dQ X s (rD X.K (Ax C' g')):=by
 refine jK h λx y H Q q=>?_;obtain⟨B,dx,dy,d,b,O,T,U,e,q⟩:=q;cases T<;>try (cases e;done)
 cases U<;>try (cases e;done)
 rename_i i j;simp only[Ax]at e;split at e
 ·rename_i hc;cases e
  exact⟨i,j,rfl,rfl,G i j hc,q.one O (M i j B)⟩
 ·cases e
def ig (h:dQ X s (Hv g))(G:∀i j B,Is X.K B (g i j) (g' i j)):dQ X s (rD X.K (Ax (λ_ _=>true) g')):=by
 refine jK h λx y H Q q=>?_;obtain⟨B,dx,U,d,b,M,O,T,e,q⟩:=q;cases O<;>try (cases e;done)
 cases T<;>try (cases e;done)
 rename_i i j;simp only[Ax,if_true]at e;cases e
 exact⟨i,j,rfl,rfl,q.one M (G i j B)⟩
abbrev LX:D->D->OB:=Ax (λ_ _=>true) λi j=>.int (i+j)
abbrev qD:D->D->OB:=Ax (λ_ _=>true) λi j=>.int (i - j)
abbrev O5:D->D->OB:=Ax (λi j=>decide ((-18446744073709551616<i/\i<18446744073709551616)∨(-18446744073709551616<j/\j<18446744073709551616))) λi j=>.int (i*j)
abbrev mO:D->D->OB:=Ax (λ_ j=>decide (0<j/\j<1073741824)) λi j=>.int (i / j)
abbrev bY:D->D->OB:=Ax (λ_ j=>decide (0<j)) λi j=>.int (i % j)
abbrev O6:D->D->OB:=Ax (λ_ _=>true) λi j=>.int (Builtin.bitAnd i j)
abbrev Tj:D->D->OB:=Ax (λ_ _=>true) λi j=>.bl (decide (i<j))
abbrev Rh:D->D->OB:=Ax (λ_ _=>true) λi j=>.bl (decide (i<=j))
abbrev Hz:D->D->OB:=Ax (λ_ _=>true) λi j=>.bl (decide (j<i))
abbrev Nv:D->D->OB:=Ax (λ_ _=>true) λi j=>.bl (decide (j<=i))
def O7:dQ X (binaryOp .Add) (rD X.K LX):=ig Lx λ_ _ _=>.int _
def y7:dQ X (binaryOp .Sub) (rD X.K qD):=ig Ly λ_ _ _=>.int _
def O8:dQ X (binaryOp .Mult) (rD X.K O5):=xj Lz (λi j h=>by have h:=RV h;unfold HQ;omega) λ_ _ _=>.int _
def qE:dQ X (binaryOp .FloorDiv) (rD X.K mO):=xj HR (λi j h=>by have h:=RV h;unfold Oh;omega) λ_ _ _=>.int _
def dn:dQ X (binaryOp .Mod) (rD X.K bY):=xj L0 (λ_ _ h=>RV h) λ_ _ _=>.int _
def O9:dQ X (binaryOp .BitAnd) (rD X.K O6):=ig L1 λ_ _ _=>.int _
def Ri:dQ X (compareOp .Lt) (rD X.K Tj):=ig Oi λ_ _ _=>.bl _
def Rj:dQ X (compareOp .LtE) (rD X.K Rh):=ig Oj λ_ _ _=>.bl _
def Fi:dQ X (compareOp .Gt) (rD X.K Hz):=ig Ol λ_ _ _=>.bl _
def LY:dQ X (compareOp .GtE) (rD X.K Nv):=ig Om λ_ _ _=>.bl _
@[simp] noncomputable def Nw (C:Str->Str->Bool)(g:Str->Str->D):D->D->OB
 |.str i,.str j=>if C i j=true then some (g i j,false)else none
 |_,_=>none
abbrev Iy:D->D->OB:=Nw (λi j=>decide (i.length+j.length<=sizeLine)) λi j=>.str (i++j)
abbrev Qs:D->D->OB:=Nw (λ_ _=>true) λi j=>.bl (!decide (j.cps.toList<i.cps.toList))
def LZ:dQ X (binaryOp .Add) (rD X.K Iy):=by
 refine jK A6 λx y H Q q=>?_;obtain⟨B,dx,T,d,b,G,M,O,e,q⟩:=q;cases M<;>try (cases e;done)
 cases O<;>try (cases e;done)
 rename_i i j;simp only[Iy,Nw]at e;split at e
 ·rename_i hc;cases e
  exact⟨i,j,rfl,rfl,RV hc,q.one G (.str _)⟩
 ·cases e
def OA:dQ X (compareOp .LtE) (rD X.K Qs):=by
 intro ah s σ H x y v u Q I G M q;obtain⟨B,dx,dy,d,b,O,T,U,e,q⟩:=q;cases T<;>try (cases e;done)
 cases U<;>try (cases e;done)
 rename_i i j;simp only[Qs,Nw,if_true]at e;cases e
 obtain⟨t,rfl⟩:=G;obtain⟨t',rfl⟩:=M;exact PySem.P.le_str ⟨.bl _,H,I,rfl,q.one O (.bl _)⟩
end
section
variable {X:Cx}{a b c e:Expr}{pos:Pos}{st:Stmt}{ay:List Stmt}
def jh:uE X [] aU:=tY.to HL λ_ _ _ h=>Fd h
def aq (h1:JS X st g)(h2:uE X ay h):uE X (st::ay) (aA g h):=tY.to (E8 h1 h2) λ_ _ _ q=>Ik q
def bv (h1:JS X st g):uE X [st] g:=HM h1
def iR {c:Expr}{a b:List Stmt}{G:FT}{g h:FS}(hc:JT X c G)(ha:uE X a g)(hb:uE X b h):JS X (.If c a b pos) (di G g h):=PS.to (Oa hc ha hb) λ_ _ _ q=>LM q
def Fj (he:JE X e f):JS X (.Return (some e) pos) (aH f):=PS.to (E9 he) λ_ _ _ q=>Il q
def iS (i:Nat)(G:PE X (.Name x p) (pP i):=by exact pv):JS X (.Return (some (.Name x p)) pos) (gT i):=PS.to (E9 G) λ_ _ _ q=>Fe q
def aI (G:X.N.Nodup)(he:JE X e f)(hi:X.N[i]? = some x:=by rfl)(hx:Hu X.env.scope x:=by first|exact Or.inl rfl|exact Or.inr rfl)(hs:swapsWith e (some (.Name x p)) pos.line X.env=pure false:=by rfl)
  (hf:X.fn x=true∨X.env.scope.names.lookup x=some .local:=by first|exact .inl rfl|exact .inr rfl):JS X (.Assign [.Name x p] e pos) (aX i f):=PS.to (wP G hi hx he hs hf) λ_ _ _ q=>BK q
def Iz (G:X.N.Nodup)(he:JE X e f)(hi:X.N[i]? = some x:=by rfl)(hx:Hu X.env.scope x:=by first|exact Or.inl rfl|exact Or.inr rfl)(hs:swapsWith e (some (.Name x p)) pos.line X.env=pure false:=by rfl)
  (hf:X.fn x=true∨X.env.scope.names.lookup x=some .local:=by first|exact .inl rfl|exact .inr rfl):JS X (.Assign [.Name x p] e pos) (yy i f):=PS.to (wP G hi hx he hs hf) λ_ _ _ q=>Ff q
def y8 (n:Nat)(hp:PassesOwn (model X.prog X.w) X.A X.env X.xe)(hc:JT X c fc)(hb:uE X body g):JS X (.While c body [] pos) (fz fc g n):=PS.to (EB hp hc hb) λ_ _ _ q=>D0 q
def Ma (hp:PassesOwn (model X.prog X.w) X.A X.env X.xe)(hc:X.calm=true)(hi:JI X tg gA fi)(G:PG X tg t)(M:Io X.K qq t)(hb:uE X body g)
  (hs:∀x,foldedSetIterable gA X.env x=pure x:=by intro _;rfl):JS X (.For tg gA body [] pos) (ma fi qq g):=PS.to (ED hp hc hi G hb hs) λ_ _ _ q=>Ip M q
def IA (hp:PassesOwn (model X.prog X.w) X.A X.env X.xe)(hc:X.calm=true)(hi:PI X tg gA (Qr X.K fi))(G:PG X tg t)(M:Io X.K qq t)(hb:uE X body g)
  (hs:∀x,foldedSetIterable gA X.env x=pure x:=by intro _;rfl):JS X (.For tg gA body [] pos) (oS fi qq g):=PS.to (ED hp hc hi G hb hs) λ_ _ _ q=>Fh M q
def qF (he:JE X e f)(U:PE X (.Name x p) (pP i):=by exact pv)
  (G:attributeBase (.Name x p) "append" X.env (eval (.Name x p) X.env)=eval (.Name x p) X.env:=by rfl)
  (O:((backTo cF (starEach [e] X.env)).all (λx=>!x.1) && (backToKw cF (keywordEach [] X.env)).all (λx=>x.1.isSome)
   && decide ([e].length+([]:List Keyword).length+(if([]:List Keyword).isEmpty then 0 else 1)<30))=true:=by rfl)
  (M:(dJ.endLine == cF.line)=true:=by rfl) (hs:starEach [e] X.env=[(false,eval e X.env)]:=by rfl) (T:swapsWith (.Call (.Attribute (.Name x p) "append" dJ) [e] [] cF) none pos.line X.env=pure false:=by rfl):
  JS X (.Expr (.Call (.Attribute (.Name x p) "append" dJ) [e] [] cF) pos) (xf i f):=by
 refine PS.to (B9 (ES PySem.F.plainAttrs_list PySem.F.slot_list_append PySem.F.type_list_append u0 U (gB he jf hs) G O M hs rfl) T) λE σ H q=>?_;obtain⟨a,us,h1,h2,k⟩:=Im q;exact⟨_,h1,.inl ⟨rfl,us,iQ.of h2⟩,k⟩
end
@[simp] noncomputable def aE (g:FS)(n k:Nat):LD->OB:=λds=>if ds.length=n then
 match g (ds.map (λd=>some (d,false))++List.replicate k none) with
 |some (.rt d b)=>some (d,b)
 |some (.nx _)=>some (.non,false)
 |_=>none
 else none
def Fk (K:Frag)(f:LD->OB):Sp:=λvs H Q _=>∃(B:Hp)(ds:LD)(d:D)(b:Bool),(bc B H/\Tb K B)/\IsL K B vs ds/\f ds=some (d,b)/\Fin K B H d b Q
def qG {K:Frag}{B H:Hp}{vs:LV}{ds:LD}{N:LS}(M:bc B H)(tb:Tb K B)(i:IsL K B vs ds):eM K B H B H (L2.kh N vs) (ds.map (λd=>some (d,false))++List.replicate (N.length - vs.length) none):=by
 have G:∀(j:Nat)(d:D)(b:Bool),(ds.map (λd=>some (d,false))++List.replicate (N.length - vs.length) none:Env)[j]? = some (some (d,b))->b=false/\ds[j]? = some d:=λj d b e=>by
  by_cases hj:j<ds.length
  ·rw[getElem?_append_left (by simpa using hj),vA]at e;obtain⟨d',h1,h2⟩:=oY e;cases h2
   exact⟨rfl,h1⟩
  ·rw[getElem?_append_right (by simpa using Nat.not_lt.mp hj),getElem?_replicate]at e;split at e<;>cases e
 have O:∀a,¬own (L2.kh N vs) (ds.map (λd=>some (d,false))++List.replicate (N.length - vs.length) none) a:=λa ⟨j,d,h,_⟩=>by
  obtain⟨z,_⟩:=G j d true h;cases z
 refine⟨M,tb,.refl M,?_,λj d e=>?_,λj d e=>?_,λj k a d e h=>?_⟩
 ·unfold L2.kh;rw[uZ,uZ,vI,vI,length_replicate,length_replicate,i.length]
 ·obtain⟨_,T⟩:=G j d false e;obtain⟨v,h1,h2⟩:=i.get T;refine⟨v,?_,h2.mono λa o e=>by rw[cW (O a)];exact e⟩;unfold L2.kh;have hj:j<vs.length:=(vV h1).1;rw[getElem?_append_left (by simpa using hj),vA,h1]<;>rfl
 ·obtain⟨z,_⟩:=G j d true e;cases z
 ·obtain⟨z,_⟩:=G j d true h;cases z
section
variable {P:Program}{w:World}{K:Frag}{mg:SV}{base:Heap}
def OC {x qual:Str}{st:Stmt}{f:Addr}{fd:FuncData}{N ps:LS}{k:Nat}{g:FS}(F:MU K x qual st f fd)(S:FnScope N ps (aK st))
  (hb:∀(cS:Value)(A:Around)(outer:List PySem.Env)(s:Shared)(H:Hp)(E:XK),eP k (A.deeper (envOfC qual (aK st) s.heap.objs.size f cS))->uE (oi yh P w K mg base N qual (aK st) f cS A outer s H E).nox (bZ st) g):
  tX P w K mg base yh (k+1) f fd ps (Fk K (aE g ps.length (N.length - ps.length))):=by
 have len:∀vs H Q E,Fk K (aE g ps.length (N.length - ps.length)) vs H Q E->vs.length=ps.length:=λvs H Q E h=>by
  obtain⟨B,ds,d,b,M,i,e,q⟩:=h;unfold aE at e;split at e
  ·rename_i hl;rw[i.length];exact hl
  ·cases e
 refine F.ok S len λcS A outer s H vs Q E U h=>⟨_,hb cS A outer s H E U,?_⟩;have G:=len vs H Q E h;obtain⟨B,ds,d,b,M,i,e,q⟩:=h;unfold aE at e;rw[if_pos (by rw[←i.length];exact G)]at e;have O:=qG (N:=N) M.1 M.2 i;rw[G]at O;split at e
 ·rename_i d' b' T;cases e
  exact⟨B,H,_,_,⟨B,O⟩,T,λv H' N' x' i' f'=>q v H' N' x' i' f'⟩
 ·rename_i ρ' T;cases e
  exact⟨B,H,_,_,⟨B,O⟩,T,λσ' H' ⟨N',s'⟩=>q .non H' N' s'.ext .non (by simp)⟩
 ·cases e
structure Fn (P:Program)(w:World)(K:Frag)(mg:Str->Option Value)(base:Heap)(k:Nat)(x:Str)(f:List D->OB):Prop where
 ex:∃(ad:Addr)(fd:FuncData)(ps:List Str),tX P w K mg base yh k ad fd ps (Fk K f)/\mg x=some (.ref ad)/\PySem.W.keepIn K (.ref ad)=true/\oP K fd ps []
end
def BL (F:Fn X.prog X.w X.K X.mg X.base k x f)(T:eP k X.A)(ha:JA X (e::es) fa)(U:Gl X x:=by rfl)
  (G:(x == ("__debug__" : Str))=false:=by decide) (he:starEach (e::es) X.env=(false,eval e X.env)::starEach es X.env:=by rfl) (M:(backTo pos (starEach es X.env)).any (·.1)=false:=by rfl):
  JE X (.Call (.Name x p) (e::es) [] pos) (fA f fa):=by
 obtain⟨ad,fd,ps,F1,hm,hk,hb⟩:=F.ex;refine PE.to (BD F1 T U hm hk hb .nil Kt ha G he M) λσ H Q q=>?_;obtain⟨B,ρ,d,b,s,r,e,q⟩:=q;obtain⟨ds,ex,e⟩:=oX e;exact⟨B,ρ,ds,s,r,ex,λvs H1 N1 O i1=>by
  show Fk X.K f (vs++[]) H1 Q _;rw[uQ];exact⟨N1,ds,d,b,⟨O.nh,r.tb.mono O.bn⟩,i1,e,q.into O⟩⟩
mutual
@[simp] def cQ:D->D->Bool
 |.non,.non=>true
 |.bl a,.bl b=>a == b
 |.bl a,.int b=>decide ((if a then 1 else 0)=b)
 |.int a,.bl b=>decide (a=(if b then 1 else 0))
 |.int a,.int b=>decide (a=b)
 |.str a,.str b=>decide (a=b)
 |.tup xs,.tup ys=>fW xs ys
 |.lst xs,.lst ys=>fW xs ys
 |_,_=>false
@[simp] def fW:LD->LD->Bool
 |[],[]=>true
 |x::xs,y::ys=>cQ x y && fW xs ys
 |_,_=>false
end
@[simp] def oV (a:Str)(b:Str):cQ (.str a) (.str b)=decide (a=b):=by simp only[cQ]
@[simp] noncomputable def aQ:Nat->D->Bool
 |_,.non=>true
 |_,.bl _=>true
 |_,.int _=>true
 |_,.str _=>true
 |_,.ty _=>false
 |_,.dk _ _=>false
 |_,.dt _ _=>false
 |0,.tup _=>false
 |0,.lst _=>false
 |n+1,.tup ds=>ds.all (aQ n)
 |n+1,.lst ds=>ds.all (aQ n)
theorem y9:∀ {xs ys:LD},fW xs ys=true->xs.length=ys.length
 |[],[],_=>rfl
 |x::xs,y::ys,h=>by
  simp only[fW,vC]at h;rw[vE,vE,y9 h.2]
 |[],_::_,h=>by simp[fW]at h
 |_::_,[],h=>by simp[fW]at h
def xl (h:xs.length≠ys.length):fW xs ys=false:=by
 cases e:fW xs ys with
 |false=>rfl
 |true=>exact absurd (y9 e) h
theorem jL (f:Nat->Bool):∀ {xs ys:LD},xs.length=ys.length->(∀(j:Nat) x y,xs[j]? = some x->ys[j]? = some y->f j=cQ x y)->(List.range xs.length).all f=fW xs ys
 |[],[],_,_=>by simp[fW]
 |x::xs,y::ys,hl,h=>by
  have e:=jL (λj=>f (j+1)) (xs:=xs) (ys:=ys) (by simpa using hl) λj a b h1 h2=>h (j+1) a b (by simpa using h1) (by simpa using h2);rw[vE,List.range_succ_eq_map,all_cons,List.all_map,fW,←h 0 x y rfl rfl,←e];rfl
 |[],_::_,hl,_=>by simp at hl
 |_::_,[],hl,_=>by simp at hl
section
variable {X:Cx}{ah:AO}{σ:St}{H:Hp}{s:Shared}
def BM (I:Inv X ah σ H s)(h1:jt X.K H a vs)(h2:iQ X.K H a ws):False:=by
 obtain⟨its,_,⟨o,e,c,_⟩,_⟩:=I.tuple h1;obtain⟨its',_,⟨o',O,G,M,_⟩,_⟩:=I.list h2;rw[e]at G;cases G;rw[c]at M;injection M with z;exact absurd z (by decide)
def BN (I:Inv X ah σ H s)(e:s.heap.get? a=some o)(d:o.data=.seq its n):(∀aO ob,H a≠some (.dK aO ob))/\∀aO,H a≠some (.dT aO):=by
 refine⟨λaO ob h=>?_,λaO h=>?_⟩
 ·obtain⟨_,_,_,_,_,o',es,M,G,_,d',_⟩:=(show bN X.prog X.w H s.heap a (.dK aO ob)from I.hok a _ h);rw[e]at G;cases G;rw[d]at d';cases d'
 ·obtain⟨_,_,_,_,o',es,M,G,_,d',_⟩:=(show bN X.prog X.w H s.heap a (.dT aO)from I.hok a _ h);rw[e]at G;cases G;rw[d]at d';cases d'
def yA (I:Inv X ah σ H s)(h1:jt X.K H a vs):(∀aO ob,H a≠some (.dK aO ob))/\∀aO,H a≠some (.dT aO):=by
 obtain⟨its,_,⟨o,e,c,n,d⟩,_⟩:=I.tuple h1;exact BN I e d
def yB (I:Inv X ah σ H s)(h1:iQ X.K H a vs):(∀aO ob,H a≠some (.dK aO ob))/\∀aO,H a≠some (.dT aO):=by
 obtain⟨its,_,p,_⟩:=I.list h1;obtain⟨o,e,c,n,d⟩:=p.isList;exact BN I e d
def BO (I:Inv X ah σ H s):∀(n:Nat){v:V}{d d':D},Is X.K H v d->Is X.K H v d'->aQ n d=true->cQ d d'=true:=by
 have G:∀ {p:D->Bool}(O:∀ {v:V}{d d':D},Is X.K H v d->Is X.K H v d'->p d=true->cQ d d'=true) {vs:LV}{ds M:LD},IsL X.K H vs ds->IsL X.K H vs M->ds.all p=true->fW ds M=true:=by
  intro p O vs;induction vs with
  |nil=>intro ds M h h' _;cases h;cases h';simp[fW]
  |cons v vs T=>
   intro ds M h h' hp;cases h with
   |cons h1 h2=>
    cases h' with
    |cons h3 h4=>
     rw[all_cons,vC]at hp;rw[fW,O h1 h3 hp.1,T h2 h4 hp.2];rfl
 intro n;induction n with
 |zero=>
  intro v d d' h h' hp;cases h<;>cases h'<;>first|(simp[aQ]at hp;done)|simp[cQ]
 |succ n O=>
  intro v d d' h h' hp;cases h with
  |tup h1 h2=>
   cases h' with
   |tup h3 h4=>
    rw[I.tuple_inj h3 h1]at h4;rw[cQ];exact G O h2 h4 (by simpa [aQ]using hp)
   |lst h3 h4=>exact(BM I h1 h3).elim
   |dk h3 _ _=>exact((yA I h1).1 _ _ h3).elim
   |dt h3 _ _=>exact((yA I h1).2 _ h3).elim
  |lst h1 h2=>
   cases h' with
   |lst h3 h4=>
    rw[I.list_inj h3 h1]at h4;rw[cQ];exact G O h2 h4 (by simpa [aQ]using hp)
   |tup h3 h4=>exact(BM I h3 h1).elim
   |dk h3 _ _=>exact((yB I h1).1 _ _ h3).elim
   |dt h3 _ _=>exact((yB I h1).2 _ h3).elim
  |ty=>simp[aQ]at hp
  |dk=>simp[aQ]at hp
  |dt=>simp[aQ]at hp
  |_=>cases h'<;>simp[cQ]
def Ky {α:Type}{p:α->Bool}{l:List α}{j:Nat}{x:α}(h:l.all p=true)(e:l[j]? = some x):p x=true:=uR h x (vL e)
def yC {A:Around}{p:D->Bool}(ih:∀ {O T:V}{d1 d2:D}{U u2:Value},p d1=true->p d2=true->Is X.K H O d1->Is X.K H T d2->bd O U->bd T u2->SeqAt.EqAt A s U u2 (cQ d1 d2))
  {vs M:LV}{ds es:LD}{its G:LU}(i1:IsL X.K H vs ds) (i2:IsL X.K H M es) (r1:bu vs its) (r2:bu M G) (p1:ds.all p=true) (p2:es.all p=true):
  ∀j (h1:j<its.toArray.size) (h2:j<G.toArray.size),SeqAt.EqAt A s its.toArray[j] G.toArray[j] (cQ (ds.getD j .non) (es.getD j .non)):=by
 intro j h1 h2;rw[vH]at h1 h2;have l1:=r1.length;have l2:=r2.length;have l3:=i1.length;have l4:=i2.length;have hv:j<vs.length:=by omega
 have hw:j<M.length:=by omega
 have hd:j<ds.length:=by omega
 have he:j<es.length:=by omega
 obtain⟨u,e1,q1⟩:=r1.get (i:=j) (x:=vs[j]) (by simp[hv]);obtain⟨u',e2,q2⟩:=r2.get (i:=j) (x:=M[j]) (by simp[hw]);obtain⟨v,e3,q3⟩:=i1.get (i:=j) (d:=ds[j]) (by simp[hd]);obtain⟨w,e4,q4⟩:=i2.get (i:=j) (d:=es[j]) (by simp[he]);have a1:its.toArray[j]=u:=by have z:=(vV e1).2;simpa using z
 have a2:G.toArray[j]=u':=by have z:=(vV e2).2;simpa using z
 have a3:vs[j]=v:=by simpa [hv]using e3
 have a4:M[j]=w:=by simpa [hw]using e4
 have a5:ds.getD j .non=ds[j]:=by simp[List.getD,hd]
 have a6:es.getD j .non=es[j]:=by simp[List.getD,he]
 rw[a1,a2,a5,a6];exact ih (Ky p1 (j:=j) (by simp[hd])) (Ky p2 (j:=j) (by simp[he])) (a3 ▸ q3) (a4 ▸ q4) q1 q2
def xm {xs ys:LD}(j:Nat)(x y:D)(h1:xs[j]? = some x)(h2:ys[j]? = some y):cQ (xs.getD j .non) (ys.getD j .non)=cQ x y:=by
 simp[List.getD,h1,h2]
abbrev Rk (A:Around)(s:Shared)(G M:Value)(b:Bool):Prop:=SeqAt.RcAt A s G M b/\SeqAt.EqAt A s G M b/\SeqAt.RcNeAt A s G M (!b)
def BP {G M:Addr}(rc:SeqAt.RcAt A s (.ref G) (.ref M) b)(O:SeqAt.RcNeAt A s (.ref G) (.ref M) (!b))(h:G=M->b=true):Rk A s (.ref G) (.ref M) b:=by
 refine⟨rc,?_,O⟩;by_cases ha:G=M
 ·subst ha;rw[h rfl];exact SeqAt.EqAt.same _
 ·exact SeqAt.EqAt.of_refs ha rc
def yD (O:aQ 0 d1=true)(p2:aQ 0 d2=true)(i1:Is X.K H v1 d1)(i2:Is X.K H v2 d2)(M:bd v1 u1)(G:bd v2 u2):Rk A s u1 u2 (cQ d1 d2):=by
 cases i1 with
 |non=>
  cases M
  cases i2 with
  |non=>cases G;rw[cQ];exact⟨.none_none,.same _,.none_none⟩
  |bl b=>cases G;simp only[cQ];exact⟨.none_bool _,.none_bool _,.none_bool _⟩
  |int b=>obtain⟨t',rfl⟩:=G;simp only[cQ];exact⟨.none_int _ _,.none_int _ _,.none_int _ _⟩
  |str b=>obtain⟨t',rfl⟩:=G;simp only[cQ];exact⟨.none_str _ _,.none_str _ _,.none_str _ _⟩
  |_=>simp at p2
 |bl a=>
  cases M
  cases i2 with
  |non=>cases G;simp only[cQ];exact⟨.bool_none _,.bool_none _,.bool_none _⟩
  |bl b=>cases G;rw[cQ];exact⟨.bool_bool _ _,.bool_bool _ _,.bool_bool _ _⟩
  |int b=>obtain⟨t',rfl⟩:=G;rw[cQ,←Bool.beq_eq_decide_eq];exact⟨.bool_int _ _ _,.bool_int _ _ _,.bool_int _ _ _⟩
  |str b=>obtain⟨t',rfl⟩:=G;simp only[cQ];exact⟨.bool_str _ _ _,.bool_str _ _ _,.bool_str _ _ _⟩
  |_=>simp at p2
 |int a=>
  obtain⟨t,rfl⟩:=M;cases i2 with
  |non=>cases G;simp only[cQ];exact⟨.int_none _ _,.int_none _ _,.int_none _ _⟩
  |bl b=>cases G;rw[cQ,←Bool.beq_eq_decide_eq];exact⟨.int_bool _ _ _,.int_bool _ _ _,.int_bool _ _ _⟩
  |int b=>obtain⟨t',rfl⟩:=G;rw[cQ,←Bool.beq_eq_decide_eq];exact⟨.int_int _ _ _ _,.int_int _ _ _ _,.int_int _ _ _ _⟩
  |str b=>obtain⟨t',rfl⟩:=G;simp only[cQ];exact⟨.int_str _ _ _ _,.int_str _ _ _ _,.int_str _ _ _ _⟩
  |_=>simp at p2
 |str a=>
  obtain⟨t,rfl⟩:=M;cases i2 with
  |non=>cases G;simp only[cQ];exact⟨.str_none _ _,.str_none _ _,.str_none _ _⟩
  |bl b=>cases G;simp only[cQ];exact⟨.str_bool _ _ _,.str_bool _ _ _,.str_bool _ _ _⟩
  |int b=>obtain⟨t',rfl⟩:=G;simp only[cQ];exact⟨.str_int _ _ _ _,.str_int _ _ _ _,.str_int _ _ _ _⟩
  |str b=>obtain⟨t',rfl⟩:=G;rw[cQ,←Bool.beq_eq_decide_eq];exact⟨.str_str _ _ _ _,.str_str _ _ _ _,.str_str _ _ _ _⟩
  |_=>simp at p2
 |_=>simp at O
def Kz (I:Inv X ah σ H s):∀(n:Nat){A:Around}{v1 v2:V}{d1 d2:D}{u1 u2:Value},A.units+n<cLine->aQ n d1=true->aQ n d2=true->Is X.K H v1 d1->Is X.K H v2 d2->bd v1 u1->bd v2 u2->Rk A s u1 u2 (cQ d1 d2):=by
 intro n;induction n with
 |zero=>exact λ_ p1 p2 i1 i2 T r2=>yD p1 p2 i1 i2 T r2
 |succ n ih=>
  intro A v1 v2 d1 d2 u1 u2 hu p1 p2 i1 i2 T r2;have G:A.units<cLine:=by omega
  have TW:∀ {v1 v2:V}{d1 d2:D}{u1 u2:Value},aQ n d1=true->aQ n d2=true->Is X.K H v1 d1->Is X.K H v2 d2->bd v1 u1->bd v2 u2->SeqAt.EqAt A.in1 s u1 u2 (cQ d1 d2):=λp1 p2 i1 i2 T r2=>(ih (A:=A.in1) (by show A.units+1+n<cLine;omega) p1 p2 i1 i2 T r2).2.1;by_cases f2:aQ 0 d2=true
  ·by_cases f1:aQ 0 d1=true
   ·exact yD f1 f2 i1 i2 T r2
   ·cases i1 with
    |tup h1 k1=>
     cases T
     obtain⟨its,U,M,z1⟩:=I.tuple h1;cases i2 with
     |non=>cases r2;simp only[cQ];exact⟨.tuple_none M G,.tuple_none M G,.tuple_none M G⟩
     |bl=>cases r2;simp only[cQ];exact⟨.tuple_bool _ M G,.tuple_bool _ M G,.tuple_bool _ M G⟩
     |int=>obtain⟨t,rfl⟩:=r2;simp only[cQ];exact⟨.tuple_int _ _ M G,.tuple_int _ _ M G,.tuple_int _ _ M G⟩
     |str=>obtain⟨t,rfl⟩:=r2;simp only[cQ];exact⟨.tuple_str _ _ M G,.tuple_str _ _ M G,.tuple_str _ _ M G⟩
     |_=>simp at f2
    |lst h1 k1=>
     cases T
     obtain⟨its,U,M,z1⟩:=I.list h1;replace M:=M.isList;cases i2 with
     |non=>cases r2;simp only[cQ];exact⟨.list_none M G,.list_none M G,.list_none M G⟩
     |bl=>cases r2;simp only[cQ];exact⟨.list_bool _ M G,.list_bool _ M G,.list_bool _ M G⟩
     |int=>obtain⟨t,rfl⟩:=r2;simp only[cQ];exact⟨.list_int _ _ M G,.list_int _ _ M G,.list_int _ _ M G⟩
     |str=>obtain⟨t,rfl⟩:=r2;simp only[cQ];exact⟨.list_str _ _ M G,.list_str _ _ M G,.list_str _ _ M G⟩
     |_=>simp at f2
    |_=>simp at f1 p1
  ·cases i2 with
   |tup h2 k2=>
    cases r2
    obtain⟨B8,PF,O,z2⟩:=I.tuple h2;cases i1 with
    |tup h1 k1=>
     cases T
     obtain⟨its,U,M,z1⟩:=I.tuple h1;rename_i a2 ws es a1 vs ds;have he:=yC (A:=A.in1) (p:=aQ n) TW k1 k2 U PF (by simpa using p1) (by simpa using p2);have PH:((List.range (min its.toArray.size B8.toArray.size)).all (λj=>cQ (ds.getD j .non) (es.getD j .non)) && its.toArray.size == B8.toArray.size)=cQ (.tup ds) (.tup es):=by
      rw[cQ,vH,vH,←U.length,←PF.length,k1.length,k2.length];by_cases hl:ds.length=es.length
      ·rw[←hl,Nat.min_self,beq_self_eq_true,Bool.and_true];exact jL _ hl λj x y e1 e2=>xm j x y e1 e2
      ·rw[xl hl,beq_eq_false_iff_ne.mpr hl,Bool.and_false]
     have rc:=SeqAt.RcAt.tuples M O G he;have rn:=SeqAt.RcNeAt.tuples M O G he;rw[PH]at rc rn;exact BP rc rn λe=>by subst e;exact BO I (n+1) (.tup h1 k1) (.tup h2 k2) p1
    |lst h1 k1=>cases T;obtain⟨its,U,M,z1⟩:=I.list h1;simp only[cQ];exact⟨.list_tuple M.isList O G,.list_tuple M.isList O G,.list_tuple M.isList O G⟩
    |non=>cases T;simp only[cQ];exact⟨.none_tuple O G,.none_tuple O G,.none_tuple O G⟩
    |bl=>cases T;simp only[cQ];exact⟨.bool_tuple _ O G,.bool_tuple _ O G,.bool_tuple _ O G⟩
    |int=>obtain⟨t,rfl⟩:=T;simp only[cQ];exact⟨.int_tuple _ _ O G,.int_tuple _ _ O G,.int_tuple _ _ O G⟩
    |str=>obtain⟨t,rfl⟩:=T;simp only[cQ];exact⟨.str_tuple _ _ O G,.str_tuple _ _ O G,.str_tuple _ _ O G⟩
    |_=>simp at p1
   |lst h2 k2=>
    cases r2
    obtain⟨B8,PF,O,z2⟩:=I.list h2;replace O:=O.isList;cases i1 with
    |lst h1 k1=>
     cases T
     obtain⟨its,U,M,z1⟩:=I.list h1;replace M:=M.isList;rename_i a2 ws es a1 vs ds;have he:=yC (A:=A.in1) (p:=aQ n) TW k1 k2 U PF (by simpa using p1) (by simpa using p2);have both:SeqAt.RcAt A s (.ref a1) (.ref a2) (cQ (.lst ds) (.lst es))/\SeqAt.RcNeAt A s (.ref a1) (.ref a2) (!cQ (.lst ds) (.lst es)):=by
      have hz:its.toArray.size=ds.length/\B8.toArray.size=es.length:=by rw[vH,vH,←U.length,←PF.length,k1.length,k2.length];exact⟨rfl,rfl⟩
      by_cases hl:ds.length=es.length
      ·have PH:(List.range its.toArray.size).all (λj=>cQ (ds.getD j .non) (es.getD j .non))=cQ (.lst ds) (.lst es):=by
        rw[cQ,hz.1];exact jL _ hl λj x y e1 e2=>xm j x y e1 e2
       have hs:=(hz.1.trans hl).trans hz.2.symm;have rc:=SeqAt.RcAt.lists M O hs G he;have rn:=SeqAt.RcNeAt.lists M O hs G he;rw[PH]at rc rn;exact⟨rc,rn⟩
      ·have hs:(its.toArray.size != B8.toArray.size)=true:=by rw[hz.1,hz.2];exact bne_iff_ne.mpr hl
       rw[cQ,xl hl];exact⟨.lists_lengths M O hs G,.lists_lengths M O hs G⟩
     exact BP both.1 both.2 λe=>by subst e;exact BO I (n+1) (.lst h1 k1) (.lst h2 k2) p1
    |tup h1 k1=>cases T;obtain⟨its,U,M,z1⟩:=I.tuple h1;simp only[cQ];exact⟨.tuple_list M O G,.tuple_list M O G,.tuple_list M O G⟩
    |non=>cases T;simp only[cQ];exact⟨.none_list O G,.none_list O G,.none_list O G⟩
    |bl=>cases T;simp only[cQ];exact⟨.bool_list _ O G,.bool_list _ O G,.bool_list _ O G⟩
    |int=>obtain⟨t,rfl⟩:=T;simp only[cQ];exact⟨.int_list _ _ O G,.int_list _ _ O G,.int_list _ _ O G⟩
    |str=>obtain⟨t,rfl⟩:=T;simp only[cQ];exact⟨.str_list _ _ O G,.str_list _ _ O G,.str_list _ _ O G⟩
    |_=>simp at p1
   |_=>simp at f2 p2
@[simp] def cY:D->D->OB:=λx y=>if aQ 40 x=true/\aQ 40 y=true then some (.bl (cQ x y),false)else none
@[simp] def xn:D->D->OB:=λx y=>if aQ 40 x=true/\aQ 40 y=true then some (.bl (!cQ x y),false)else none
def cq (hu:X.A.units+40<cLine):dQ X (compareOp .Eq) (rD X.K cY):=by
 intro ah s σ H x y v u Q I M O q;obtain⟨B,dx,dy,d,b,G,T,U,e,q⟩:=q;unfold cY at e;split at e
 ·rename_i hp;cases e
  exact(Kz I 40 hu hp.1 hp.2 (T.mono G) (U.mono G) M O).1 _ _ _ _ ⟨.bl _,H,I,rfl,q.one G (.bl _)⟩
 ·cases e
def xo (hu:X.A.units+40<cLine):dQ X (compareOp .NotEq) (rD X.K xn):=by
 intro ah s σ H x y v u Q I M O q;obtain⟨B,dx,dy,d,b,G,T,U,e,q⟩:=q;unfold xn at e;split at e
 ·rename_i hp;cases e
  exact(Kz I 40 hu hp.1 hp.2 (T.mono G) (U.mono G) M O).2.2 _ _ _ _ ⟨.bl _,H,I,rfl,q.one G (.bl _)⟩
 ·cases e
end
section
variable {X:Cx}{a b e:Expr}{pos:Pos}
def BQ {K:Frag}{H:Hp}{vs:LV}{ds:LD}{i:Int}{d:D}(h:IsL K H vs ds)(e:oR ds i=some d):∃v,oR vs i=some v/\Is K H v d:=by
 unfold oR at e ⊢;rw[h.length];cases q:Hw ds.length i with
 |none=>rw[q]at e;cases e
 |some j=>rw[q]at e;exact h.get e
@[simp] def bH:D->D->OB
 |.lst ds,.int i=>(oR ds i).map λd=>(d,false)
 |.tup ds,.int i=>(oR ds i).map λd=>(d,false)
 |.str z,.int i=>if z.length<=sizeLine then (oR z.cps.toList i).map λc=>(.str ⟨#[c]⟩,false)else none
 |_,_=>none
def Rm:EM X (rD X.K bH):=by
 intro G M ah s σ H x y v u Q I U ry q hs;obtain⟨B,dx,dy,d,b,O,ix,iy,e,q⟩:=q;cases ix<;>try (cases e;done)
 all_goals (cases iy<;>try (cases e;done))
 ·simp only[bH]at e;split at e
  ·rename_i hz;obtain⟨c,T,e2⟩:=oY e;cases e2
   exact EQ G M ah s σ H _ _ v u Q I U ry ⟨_,_,c,rfl,rfl,hz,T,q.one O (.str _)⟩ hs
  ·cases e
 ·rename_i h hl i;simp only[bH]at e;obtain⟨c,T,e2⟩:=oY e;cases e2
  obtain⟨w,h1,h2⟩:=BQ hl T;exact EO G M ah s σ H _ _ v u Q I U ry ⟨_,_,_,w,rfl,rfl,bC O h,h1,q.one O h2⟩ hs
 ·rename_i h hl i;simp only[bH]at e;obtain⟨c,T,e2⟩:=oY e;cases e2
  obtain⟨w,h1,h2⟩:=BQ hl T;exact Ic G M ah s σ H _ _ v u Q I U ry ⟨_,_,_,w,rfl,rfl,O.seq h,h1,q.one O h2⟩ hs
def aY (ha:JE X a fa)(hb:JE X b fb)(hs:qd b:=by intro _ _;rfl):JE X (.Subscript a b pos) (f2 bH fa fb):=PE.to (EN Rm ha hb hs) λ_ _ _ h=>Ih h
abbrev FO:=Env->Option OI
def UT (K:Frag)(f:FO):TO:=λσ H Q=>∃(B:Hp)(ρ:Env)(o:OI),bc B H/\fU K B σ ρ/\f ρ=some o/\∀H',bc H H'->Q o H'
abbrev JO (X:Cx)(e:Option Expr)(f:FO):Prop:=PO X e (UT X.K f)
@[simp] noncomputable def ii:FO:=λ_=>some none
@[simp] noncomputable def eY (f:FE):FO:=λρ=>match f ρ with|some (.int i,_)=>some (some i)|_=>none
def jM:JO X none ii:=λah s σ H Q I h=>HX ah s σ H Q I (by
 obtain⟨B,ρ,o,G,r,e,q⟩:=h;cases e
 exact q H (.refl H))
def gY (h:JE X e f):JO X (some e) (eY f):=λah s σ H Q I q=>HY h ah s σ H Q I (by
 obtain⟨B,ρ,o,G,r,e,q⟩:=q;unfold eY at e;split at e
 ·rename_i i U M;cases e
  refine⟨B,ρ,_,_,G,r,M,λv O N1 T i1 _=>?_⟩;cases i1
  exact⟨i,rfl,q O T.hh⟩
 ·cases e)
def lI (ds:LD)(lo hi:OI):LD:=(ds.drop (HT.dS ds.length 0 lo)).take (HT.dS ds.length ds.length hi - HT.dS ds.length 0 lo)
def xp {K:Frag}{H:Hp}{vs:LV}{ds:LD}{lo hi:OI}(h:IsL K H vs ds):IsL K H (tZ vs lo hi) (lI ds lo hi):=by
 unfold tZ lI;rw[h.length];exact(h.drop _).take _
def cA.to (h:cA X f r)(k:∀xs H Q,r' xs H Q->r xs H Q):cA X f r':=λah s σ H xs us Q I G q=>h ah s σ H xs us Q I G (k xs H Q q)
variable {es:QD}{x:Str}{p:Pos}{id T:String}
def aL (hc:cA X (.builtin id) (E1 X.K f))(hm:X.mg x=none)(hv:bootBuiltins x=some (.builtin id))(ha:JA X (e::es) fa)(O:Gl X x:=by rfl)(hn:x ≠ "__name__":=by decide)(G:(x == ("__debug__" : Str))=false:=by decide)
  (he:starEach (e::es) X.env=(false,eval e X.env)::starEach es X.env:=by rfl) (M:(backTo pos (starEach es X.env)).any (·.1)=false:=by rfl):JE X (.Call (.Name x p) (e::es) [] pos) (fA f fa):=PE.to (qw hc O hm hv ha hn G he M) λ_ _ _ h=>Ii h
def uH (hc:cA X (.type T) (E1 X.K f))(hm:X.mg x=none)(hv:bootBuiltins x=some (.type T))(ha:JA X (e::es) fa)(O:Gl X x:=by rfl)(hn:x ≠ "__name__":=by decide)(G:(x == ("__debug__" : Str))=false:=by decide)
  (he:starEach (e::es) X.env=(false,eval e X.env)::starEach es X.env:=by rfl) (M:(backTo pos (starEach es X.env)).any (·.1)=false:=by rfl):JE X (.Call (.Name x p) (e::es) [] pos) (fA f fa):=PE.to (oj hc O hm hv ha hn G he M) λ_ _ _ h=>Ii h
@[simp] noncomputable def eO:LD->OB
 |[.lst ds]=>some (.int ds.length,false)
 |[.tup ds]=>some (.int ds.length,false)
 |[.str z]=>if z.length<=sizeLine then some (.int z.length,false)else none
 |_=>none
def fK:cA X (.builtin "len") (E1 X.K eO):=by
 refine cA.to (cA.or wT wU) λxs H Q q=>?_;obtain⟨B,ds,d,b,G,i,e,q⟩:=q;cases i with
 |nil=>simp[eO]at e
 |cons i1 i2=>
  cases i2 with
  |cons _ _=>cases i1<;>simp[eO]at e
  |nil=>
   cases i1<;>try (simp[eO]at e;done)
   ·simp only[eO]at e;split at e
    ·rename_i hz;cases e
     exact .inr ⟨_,rfl,hz,q.one G (.int _)⟩
    ·cases e
   ·rename_i h hl;simp only[eO]at e;cases e
    refine .inl ⟨_,_,rfl,.inr (bC G h),?_⟩;rw[hl.length];exact q.one G (.int _)
   ·rename_i h hl;simp only[eO]at e;cases e
    refine .inl ⟨_,_,rfl,.inl (G.seq h),?_⟩;rw[hl.length];exact q.one G (.int _)
def iT (hm:X.mg x=none)(hv:bootBuiltins x=some (.type n))(G:Gl X x:=by rfl)(hn:x ≠ "__name__":=by decide)(hd:(x == ("__debug__" : Str))=false:=by decide):JE X (.Name x pos) (fC (.ty n)) :=
 PE.to (HJ G hm hv (v:=.ty n) rfl hn hd) λ_ _ _ h=>D3 (λ_=>.ty n) h
end
def AI (G:eP k A):A.units+40<cLine:=by have:=G.un;omega
section
variable {X:Cx}{a b e:Expr}{pos:Pos}{x:Str}{p:Pos}
def cZ (h:∃u v,X.mg x=some u/\bd v u/\∀B,Is X.K B v d)(G:Gl X x:=by rfl)(hd:(x == ("__debug__" : Str))=false:=by decide):JE X (.Name x pos) (fC d):=by
 obtain⟨u,v,hm,r,i⟩:=h;exact Iv G hm r i hd
@[simp] noncomputable def BR:D->D->OB
 |.int i,.int j=>some (.int (i+j),false)
 |.str i,.str j=>if i.length+j.length<=sizeLine then some (.str (i++j),false)else none
 |_,_=>none
def IB:dQ X (binaryOp .Add) (rD X.K BR):=by
 refine jK (r:=rD X.K (Hy LX Iy)) (qC O7 LZ) λx y H Q q=>?_;obtain⟨B,dx,G,d,b,M,O,T,e,q⟩:=q;refine⟨B,dx,G,d,b,M,O,T,?_,q⟩;cases dx<;>try (cases e;done)
 all_goals (cases G<;>try (cases e;done))
 all_goals (simp[BR]at e;simp[Hy,LX,Iy,Ax,Nw,e])
@[simp] def AJ:D->D->OB:=O5
def qH:dQ X (binaryOp .Mult) (rD X.K AJ):=O8
@[simp] def yE:D->D->OB:=Tj
def kB:dQ X (compareOp .Lt) (rD X.K yE):=Ri
@[simp] noncomputable def qI:D->D->OB
 |.int i,.int j=>some (.bl (decide (i<=j)),false)
 |.str i,.str j=>some (.bl (!decide (j.cps.toList<i.cps.toList)),false)
 |_,_=>none
def gV:dQ X (compareOp .LtE) (rD X.K qI):=by
 refine jK (r:=rD X.K (Hy Rh Qs)) (qC Rj OA) λx y H Q q=>?_;obtain⟨B,dx,G,d,b,M,O,T,e,q⟩:=q;refine⟨B,dx,G,d,b,M,O,T,?_,q⟩;cases dx<;>try (cases e;done)
 all_goals (cases G<;>try (cases e;done))
 all_goals (simp[qI]at e;simp[Hy,Rh,Qs,Ax,Nw,e])
@[simp] noncomputable def D4:D->OB
 |.int i=>some (.int (-i),false)
 |_=>none
def OD:Oe X (unaryOp .USub) (Rf X.K D4):=by
 intro ah s σ H x v Q I G q;obtain⟨B,dx,d,b,M,O,e,q⟩:=q;cases O<;>try (simp[D4]at e;done)
 simp only[D4]at e;cases e
 exact L3 ah s σ H _ v Q I G ⟨_,rfl,q.one M (.int _)⟩
@[simp] noncomputable def kE:D->D->Option Bool
 |.non,.non=>some true
 |_,.non=>some false
 |.bl a,.bl b=>some (a == b)
 |_,.bl _=>some false
 |_,_=>none
@[simp] def qJ:D->D->OB:=λx y=>(kE x y).map λb=>(.bl b,false)
@[simp] def gP:D->D->OB:=λx y=>(kE x y).map λb=>(.bl (!b),false)
def BS {K:Frag}{B:Hp}{x y:V}{v u:Value}{dx G:D}{k:Bool}(O:Is K B x dx)(T:Is K B y G)(M:bd x v)(U:bd y u)(e:kE dx G=some k):plainIs v u=true/\(v == u)=k:=by
 cases T<;>(first|(cases dx<;>simp[kE]at e;done)|skip)
 all_goals (cases O)
 all_goals (first|(obtain⟨t,rfl⟩:=M)|cases M)
 all_goals (cases U)
 all_goals (simp only[kE,Option.some.injEq]at e;subst e)
 all_goals (first|exact⟨rfl,rfl⟩|skip)
 all_goals (rename_i c d;cases c<;>cases d<;>exact⟨rfl,rfl⟩)
def pR:dQ X (compareOp .Is) (rD X.K qJ):=by
 intro ah s σ H x y v u Q I G M q;obtain⟨B,dx,dy,d,b,O,T,U,e,q⟩:=q;obtain⟨k,ek,e⟩:=oY e;cases e
 obtain⟨h1,h2⟩:=BS T U G M ek;refine wpAny_is_plain h1 ⟨.bl k,H,I,by rw[h2];rfl,q.one O (.bl _)⟩
def mP:dQ X (compareOp .IsNot) (rD X.K gP):=by
 intro ah s σ H x y v u Q I G M q;obtain⟨B,dx,dy,d,b,O,T,U,e,q⟩:=q;obtain⟨k,ek,e⟩:=oY e;cases e
 obtain⟨h1,h2⟩:=BS T U G M ek;refine wpAny_isNot_plain h1 ⟨.bl (!k),H,I,by rw[h2];rfl,q.one O (.bl _)⟩
@[simp] noncomputable def fX:D->Bool
 |.non=>true|.bl _=>true|.int _=>true|.str _=>true
 |_=>false
noncomputable def E2 (x:D)(ds:LD):Bool:=ds.any λy=>cQ y x
@[simp] noncomputable def fY:D->Option LD
 |.lst ds=>some ds
 |.tup ds=>some ds
 |_=>none
@[simp] def AK:D->D->OB:=λx y=>(fY y).bind λds=>if fX x=true/\ds.all fX=true then some (.bl (E2 x ds),false)else none
@[simp] def dZ:D->D->OB:=λx y=>(fY y).bind λds=>if fX x=true/\ds.all fX=true then some (.bl (!E2 x ds),false)else none
def qK {K:Frag}{B:Hp}{v:V}{d:D}(i:Is K B v d)(h:fX d=true):lJ v=true:=by
 cases i<;>first|rfl|(simp[fX]at h)
def Rn {K:Frag}{B:Hp}{v w:V}{d e:D}(i:Is K B v d)(j:Is K B w e)(h:fX d=true)(h':fX e=true):Hx v w=cQ d e:=by
 cases i<;>(first|(simp[fX]at h;done)|skip)
 all_goals (cases j<;>(first|(simp[fX]at h';done)|skip))
 all_goals (simp only[Hx,cQ,Bool.beq_eq_decide_eq])
theorem yF {K:Frag}{B:Hp}:∀ {vs:LV}{ds:LD},IsL K B vs ds->ds.all fX=true->vs.all lJ=true
 |_,_,.nil,_=>rfl
 |_,_,.cons i t,h=>by
  rw[all_cons,vC]at h;rw[all_cons,qK i h.1,yF t h.2];rfl
theorem Fl {K:Frag}{B:Hp}{v:V}{d:D}(j:Is K B v d)(hd:fX d=true):∀ {vs:LV}{ds:LD},IsL K B vs ds->ds.all fX=true->Qq v vs=E2 d ds
 |_,_,.nil,_=>rfl
 |_,_,.cons i t,h=>by
  rw[all_cons,vC]at h;have e:=Fl j hd t h.2;unfold Qq E2 at *;rw[any_cons,any_cons,e,Rn i j h.1 hd]
def uI:dQ X (compareOp .In) (rD X.K AK):=by
 refine jK Dt λx y H Q q=>?_;obtain⟨B,dx,T,d,b,G,M,O,e,q⟩:=q;obtain⟨ds,es,e⟩:=oX e;split at e
 ·rename_i hf;cases e
  cases O<;>simp only[fY]at es<;>try (cases es;done)
  ·rename_i h hl;cases es
   exact⟨_,_,rfl,.inr (bC G h),qK M hf.1,yF hl hf.2,by rw[if_neg (by decide),Fl M hf.1 hl hf.2];exact q.one G (.bl _)⟩
  ·rename_i h hl;cases es
   exact⟨_,_,rfl,.inl (G.seq h),qK M hf.1,yF hl hf.2,by rw[if_neg (by decide),Fl M hf.1 hl hf.2];exact q.one G (.bl _)⟩
 ·cases e
def kF:dQ X (compareOp .NotIn) (rD X.K dZ):=by
 refine jK wS λx y H Q q=>?_;obtain⟨B,dx,T,d,b,G,M,O,e,q⟩:=q;obtain⟨ds,es,e⟩:=oX e;split at e
 ·rename_i hf;cases e
  cases O<;>simp only[fY]at es<;>try (cases es;done)
  ·rename_i h hl;cases es
   exact⟨_,_,rfl,.inr (bC G h),qK M hf.1,yF hl hf.2,by rw[if_pos rfl,Fl M hf.1 hl hf.2];exact q.one G (.bl _)⟩
  ·rename_i h hl;cases es
   exact⟨_,_,rfl,.inl (G.seq h),qK M hf.1,yF hl hf.2,by rw[if_pos rfl,Fl M hf.1 hl hf.2];exact q.one G (.bl _)⟩
 ·cases e
def eZ:bootBuiltins "len" = some (.builtin "len"):=PySem.boot_len
def bJ:bootBuiltins "isinstance" = some (.builtin "isinstance"):=by decide +kernel
def OE:bootBuiltins "max" = some (.builtin "max"):=by decide +kernel
def yG:bootBuiltins "all" = some (.builtin "all"):=by decide +kernel
def OF:bootBuiltins "int" = some (.type "int"):=by decide +kernel
def Fm:bootBuiltins "bool" = some (.type "bool"):=by decide +kernel
def Fo:bootBuiltins "str" = some (.type "str"):=by decide +kernel
def Fp:bootBuiltins "list" = some (.type "list"):=by decide +kernel
def iU:bootBuiltins "tuple" = some (.type "tuple"):=by decide +kernel
@[simp] noncomputable def Fq:LD->OB
 |[.int i,.int j]=>some (.int (if j > i then j else i),false)
 |_=>none
def Fs {K:Frag}{B:Hp}{xs:LV}{i j:Int}(h:IsL K B xs [.int i,.int j]):xs=[.int i,.int j]:=by
 cases h with
 |cons h1 h2=>cases h1;cases h2 with|cons h3 h4=>cases h3;cases h4;rfl
def OG (hc:X.calm=true:=by rfl):cA X (.builtin "max") (E1 X.K Fq):=by
 refine cA.to (Dq hc) λxs H Q q=>?_;obtain⟨B,ds,d,b,G,i,e,q⟩:=q;match ds,e with
 |[.int M,.int O],e=>simp only[Fq]at e;cases e;exact⟨M,O,Fs i,q.one G (.int _)⟩
@[simp] noncomputable def ij:D->String
 |.non=>"NoneType" | .bl _=>"bool" | .int _=>"int" | .str _=>"str" | .ty _=>"type" | .tup _=>"tuple" | .lst _=>"list" | .dk _ _=>"dict" | .dt _ _=>"dict"
@[simp] noncomputable def AL:D->Bool
 |.ty _=>true
 |_=>false
@[simp] noncomputable def BU (t n:String):OB :=
 if n = "int" then some (.bl (t == "int" || t == "bool"),false)else if n = "bool" then some (.bl (t == "bool"),false)else if n = "str" then some (.bl (t == "str"),false)
 else if n = "list" then some (.bl (t == "list"),false)else if n = "tuple" then some (.bl (t == "tuple"),false)else none
@[simp] def bD:LD->OB
 |[d,.ty n]=>if AL d=true then none else BU (ij d) n
 |_=>none
def IC {ah:AO}{σ:St}{H:Hp}{s:Shared}{A:Around}{E:QV}{Q:QV}{c:Value}{b:Bool}{v:V}{d:D}{u:Value}(I:Inv X ah σ H s)(i:Is X.K H v d)(hd:∀n,d≠.ty n)(G:bd v u)(e:PySem.W.kitOne X.K (.type (ij d)) c=some b)(h:∀tk,Q (.bool b) { s with toks:=tk }):
  wpAny (model X.prog X.w) A (call (.builtin "isinstance") [u,c]) Q E s:=by
 cases i with
 |non=>exact hU I G .non e h
 |bl y=>exact hU I G (.bl y) e h
 |int y=>exact hU I G (.int y) e h
 |str y=>exact hU I G (.str y) e h
 |ty n=>exact absurd rfl (hd n)
 |dk h1 _ _=>exact hU I G (.dK h1) e h
 |dt h1 _ _=>exact hU I G (.dT h1) e h
 |tup M _=>
  cases G
  obtain⟨its,_,⟨o,h1,h2,_⟩,_⟩:=I.tuple M;exact kia_one PySem.W.kitx_tuple I.kIn ⟨o,h1,h2⟩ e (λz=>nomatch z) h
 |lst hl _=>
  cases G
  obtain⟨its,_,⟨o,n,h1,h2,_⟩,_⟩:=I.list hl;exact kia_one PySem.W.kitx_list I.kIn ⟨o,h1,h2⟩ e (λz=>nomatch z) h
def Ft (K:Frag)(d:D)(hd:∀n,d≠.ty n):
  PySem.W.kitOne K (.type (ij d)) (.type "int")=some (ij d == "int" || ij d == "bool")/\PySem.W.kitOne K (.type (ij d)) (.type "bool")=some (ij d == "bool")/\PySem.W.kitOne K (.type (ij d)) (.type "str")=some (ij d == "str") /\
   PySem.W.kitOne K (.type (ij d)) (.type "list")=some (ij d == "list")/\PySem.W.kitOne K (.type (ij d)) (.type "tuple")=some (ij d == "tuple"):=by
 cases d<;>(first|exact absurd rfl (hd _)|skip)
 all_goals (simp only[ij];refine⟨?_,?_,?_,?_,?_⟩<;>kernel_rfl)
def bL:cA X (.builtin "isinstance") (E1 X.K bD):=by
 intro ah s σ H xs us Q I M q;obtain⟨B,ds,d,b,G,i,e,q⟩:=q;cases i with
 |nil=>cases e
 |cons i1 i=>cases i with
 |nil=>cases e
 |cons i2 i=>
  cases i2<;>try (cases e;done)
  cases i<;>try (cases e;done)
  rename_i dx n;obtain⟨O,u2,rfl,T,U⟩:=EG M;cases U
  simp only[bD]at e;split at e
  ·cases e
  ·rename_i ht;have hd:∀n,dx≠.ty n:=λn z=>by subst z;exact ht rfl
   obtain⟨k1,k2,k3,k4,k5⟩:=Ft X.K dx hd;have jv:∀ {k:Bool},PySem.W.kitOne X.K (.type (ij dx)) (.type n)=some k->Fin X.K B H (.bl k) false Q->wq X (call (.builtin "isinstance") [O,.type n]) (EP X ah σ Q) X.xe s:=λ{k} hk q=>
    IC I (i1.mono G) hd T hk λtk=>⟨.bl k,H,I.tok tk,rfl,q.one G (.bl k)⟩
   unfold BU at e;split at e
   ·rename_i z;subst z;cases e;exact jv k1 q
   split at e
   ·rename_i z;subst z;cases e;exact jv k2 q
   split at e
   ·rename_i z;subst z;cases e;exact jv k3 q
   split at e
   ·rename_i z;subst z;cases e;exact jv k4 q
   split at e
   ·rename_i z;subst z;cases e;exact jv k5 q
   ·cases e
@[simp] def Fu (f:FE):FA:=λρ=>(f ρ).bind λx=>fY x.1
def BV (h:JE X e f):JI X tg e (Fu f):=by
 intro ah s σ H R I q;obtain⟨B,ρ,ds,sB,r,e',q⟩:=q;obtain⟨x,ex,es⟩:=oX e';obtain⟨xd,xb⟩:=x;cases xd<;>simp only[fY]at es<;>try (cases es;done)
 ·cases es
  refine Lr h ah s σ H R I ⟨B,ρ,_,_,sB,r,ex,λv U N1 O i1 _=>?_⟩;cases i1 with
  |@tup a vs _ M hl=>
   refine⟨a,rfl,⟨vs,bC O.nh M⟩,q _ U N1 O λi H2 s2=>⟨λd ed=>?_,λG=>⟨vs,bC s2 M,by rw[hl.length];exact G⟩⟩⟩;obtain⟨v,T,iv⟩:=hl.get ed;refine⟨⟨vs,v,bC s2 M,T⟩,λy H3 hy=>?_⟩;obtain⟨rfl,hy⟩:=hy;have:=hy vs (bC s2 M);rw[T]at this;cases this;exact⟨N1,.refl s2,iv⟩
 ·cases es
  refine HN h ah s σ H R I ⟨B,ρ,_,_,sB,r,ex,λv U N1 O i1 _=>?_⟩;cases i1 with
  |@lst a vs _ M hl=>
   refine⟨a,rfl,⟨vs,O.nh.seq M⟩,q _ U N1 O λi H2 s2=>⟨λd ed=>?_,λG=>⟨vs,s2.seq M,by rw[hl.length];exact G⟩⟩⟩;obtain⟨v,T,iv⟩:=hl.get ed;refine⟨⟨vs,v,s2.seq M,T⟩,λy H3 hy=>?_⟩;obtain⟨rfl,hy⟩:=hy;have:=hy vs (s2.seq M);rw[T]at this;cases this;exact⟨N1,.refl s2,iv⟩
noncomputable def jN (lo:Int)(n:Nat):LD:=(List.range n).map λ(k:Nat)=>.int (lo+(k:Int))
def Fv {K:Frag}{B:Hp}(lo:Int)(n:Nat):om K (Qo lo n) B (jN lo n):=by
 intro i H s;unfold jN;refine⟨λd ed=>?_,λhl=>by rw[vI,length_range]at hl;exact hl⟩;rw[vA]at ed;obtain⟨k,ek,ed⟩:=oY ed;have hk:=vV ek;obtain⟨G,hk⟩:=hk;rw[length_range]at G;rw[List.getElem_range]at hk;subst hk;subst ed;refine⟨G,λx H' hy=>?_⟩;obtain⟨rfl,rfl⟩:=hy;exact⟨B,.refl s,.int _⟩
@[simp] def md (f:FE):FA:=λρ=>match f ρ with
 |some (.int j,_)=>if -1000<=j/\j<=1000 then some (jN 0 j.toNat)else none
 |_=>none
def qL (hm:X.mg "range" = none)(h:JE X a f)(M:Gl X "range":=by rfl)(hs:starEach [a] X.env=[(false,eval a X.env)]:=by rfl):PI X tg (.Call (.Name "range" p) [a] [] pos) (Qr X.K (md f)):=by
 refine PI.to (Dm M hm (ai h ao hs) hs) λσ H R q=>?_;obtain⟨B,ρ,ds,O,r,G,q⟩:=q;unfold md at G;split at G
 ·rename_i j b' T;split at G
  ·rename_i hj;cases G
   refine⟨B,ρ,[.int j],O,r,by simp[ag,aj,T],λvs U N1 x1 i1=>?_⟩;cases i1 with
   |cons i1 i2=>
    cases i1;cases i2
    exact⟨j,rfl,by omega,by omega,q _ U N1 x1 λ_=>Fv 0 j.toNat⟩
  ·cases G
 ·cases G
end
def cD (K:Frag)(x:Str)(st:Stmt):Prop:=∃(f:Addr)(fd:FuncData),MU K x x st f fd/\nsIn K mainGlobals x=some (some (.ref f))
def def_mk {K:Frag}{x:Str}{st:Stmt}{f:Addr}{oc:Value}{od an:Option Addr}{lX:Array (Option Value)}{kV doc pm cS ct:Value}(a:nsIn K mainGlobals x=some (some (.ref f)))
  (l:K.lookup f=some ⟨oc,od,.func (fnOf x x (dL st) (bZ st) (aK st) .none kV doc pm an cS ct),lX⟩) (c:PySem.W.codeIn K cS x=true) (k:PySem.W.keepIn K (.ref f)=true):cD K x st:=⟨f,_,LB l c k,a⟩
section
variable {P:Program}{w:World}{K:Frag}{mg:SV}{base:Heap}
def cD.fn {x:Str}{st:Stmt}{N ps:LS}{k:Nat}{g:FS}{h:Heap}(F:cD K x st)(X:K.In h)(G:h.Ns mainGlobals mg)(S:FnScope N ps (aK st))
  (M:∀(kV doc pm:Value)(an:Option Addr)(cS ct:Value)(us:LU),us.length=ps.length->bindArgs (fnOf x x (dL st) (bZ st) (aK st) .none kV doc pm an cS ct) ⟨us,[]⟩=pure (ps.zip us))
  (hb:∀(f:Addr)(cS:Value)(A:Around)(outer:List PySem.Env)(s:Shared)(H:Hp)(E:XK),eP k (A.deeper (envOfC x (aK st) s.heap.objs.size f cS))->uE (oi yh P w K mg base N x (aK st) f cS A outer s H E).nox (bZ st) g):
  Fn P w K mg base (k+1) x (aE g ps.length (N.length - ps.length)):=by
 obtain⟨f,fd,O,a⟩:=F;exact⟨f,fd,ps,OC O S (hb f),mg_of X G a,O.kp,O.binds M⟩
end
def OH (H:Hp):Prop:=∀b,H b=none∨(∃o xs,H b=some (.frz o (.lst xs)))∨∃q,H b=some (.tbl q)
noncomputable def qM (M:List (Addr×Str))(G:Hp):Hp:=λb=>match M.lookup b with|some q=>some (.tbl q)|none=>G b
def gG (e:tabs.lookup b=some q):qM tabs G b=some (.tbl q):=by unfold qM;rw[e]
def j4 (e:tabs.lookup b=none):qM tabs G b=G b:=by unfold qM;rw[e]
def D5 {P:Program}{w:World}{K:Frag}{mg mb:SV}{k:Nat}{fa a:Addr}{fd:FuncData}{x:Str}{sp:Sp}{M:Shared}{vs:LU}{ns:LI}(O:List (Addr×Str))
  (ht:∀b q,O.lookup b=some q->M.heap.get? b=some (PySem.W.tabObj #[])/\isCodeTable M.heap b) (We:PySem.W.noTabs K=true)
  (KX:K.In M.heap) (MW:M.heap.Ns mainGlobals mg) (hb:M.heap.Ns builtinsNs mb) (Wf:∀x:Str,x ≠ "__name__"->mb x=bootBuiltins x) (RY:M.heap.NoLimit)
  (Wg:∃bm ob,mg "__builtins__" = some (.ref bm)/\bm≠builtinsNs/\M.heap.get? bm=some ob/\ob.cls=.type "module"/\ob.dict=some builtinsNs/\ob.data=.plain) (hg:M.gens=#[])
  (ha:M.heap.get? a=some { cls:=.type "list",data:=.seq vs.toArray }) (hi:IntsAre vs ns) (hl:ns.length<=sizeLine) (hr:eP k callerA)
  (F:∀base:Heap,K.In base->base.Ns mainGlobals mg->tX P w K mg base yh k fa fd [x] sp) (PJ:∀(s:Shared)(u:Value),BindsTo s fd ⟨[u],[]⟩ [(x,u)])
  (Q3:∀H:Hp,(∀b q,O.lookup b=some q->H b=some (.tbl q))->iQ K H a (ns.map V.int)->sp [.ref a] H (λv _=>v=.bl true) λ_ _ _=>False):
  codeAny (model P w) callerA (.call (.ref fa) ⟨[.ref a],[]⟩) (λr s'=>r=.ok (.ret (.bool true))/\OldK M.heap s'.heap/\s'.os=M.os/\AllBare s'.gens) M:=by
 have rv:=L2.jy hi;have RZ:=hi.length;have PK:∀H:Hp,OH H->(∀b q,O.lookup b=some q->H b=some (.tbl q))->iQ K H a (ns.map V.int)->lH P w H M.heap->(∀b q,H b=some (.tbl q)->M.heap.get? b=some (PySem.W.tabObj #[])/\isCodeTable M.heap b) ->
   (∀b o u,H b=some (.frz o u)->b=a)->(∀b o u,H b=some (.frz o u)->K.lookup b=none) ->
   codeAny (model P w) callerA (.call (.ref fa) ⟨[.ref a],[]⟩) (λr s'=>r=.ok (.ret (.bool true))/\OldK M.heap s'.heap/\s'.os=M.os/\AllBare s'.gens) M:=by
  intro H hO hT hS hok hA hB hK;have Wh:∀ {b:Addr}{o:Obj},M.heap.get? b=some o->(o.cls≠.none)->(o.cls≠.type "list")->H b=none:=λ{b o} e d d'=>by
   rcases hO b with q|⟨ob,xs,q⟩|⟨u,q⟩
   ·exact q
   ·have e':b=a:=hB b _ _ q;subst e';rw[ha]at e;cases e;exact absurd rfl d'
   ·rw[(hA b u q).1]at e;cases e;exact absurd rfl d
  have Wi:∀ {b:Addr}{o:Obj}{es:Array DictEntry}{ep:Nat},M.heap.get? b=some o->o.data=.dict es ep->H b=none:=λ{b o es ep} e d=>by
   rcases hO b with q|⟨ob,xs,q⟩|⟨u,q⟩
   ·exact q
   ·have e':b=a:=hB b _ _ q;subst e';rw[ha]at e;cases e;cases d
   ·rw[(hA b u q).1]at e;cases e;cases d
  have Q9:∀ {b:Addr}{m:SV},M.heap.Ns b m->(yn M.heap H).Ns b m:=λ{b m} ⟨o,es,ep,e,d,r⟩=>⟨o,es,ep,qt e (Wi e d),d,r⟩;have TX:K.In (yn M.heap H):=λb o e=>qt (KX b o e) (by
   rcases hO b with q|⟨ob,xs,q⟩|⟨u,q⟩
   ·exact q
   ·rw[hK b _ _ q]at e;cases e
   ·have z:=(hA b u q).1;rw[KX b o e]at z;cases z
    have:=uR We _ (PySem.W.mem_of_lookupK e);simp at this)
  have hM:Mod K mg (yn M.heap H):=⟨TX,Q9 MW,⟨mb,Q9 hb,Wf⟩,let ⟨mc,h1,h2⟩:=RY;⟨mc,Q9 h1,h2⟩,by
   obtain⟨bm,ob,b1,b2,b3,b4,b5⟩:=Wg;exact⟨bm,ob,b1,b2,qt b3 (Wh b3 (by rw[b4];exact λz=>nomatch z) (by rw[b4];intro z;injection z with z;exact absurd z (by decide))),b4,b5⟩⟩
  have e0:Env0 P w K mg (yn M.heap H) callerA [] M H:=⟨rfl,hM,λb o e=>HH e,le_of_eq (Dj _ _),trivial,λb hb=>absurd (show b∈([]:List Addr)from hb) (by simp),hok,.of_eq hg⟩;refine codeAny_mono ((F _ TX (Q9 MW)).run callerA [] M H ⟨[.ref a],[]⟩ [.ref a] [.ref a] _ _ hr e0 (PJ M (.ref a)) (.cons rfl .nil) (Q3 H hT hS)) λr s' h=>?_;cases r with
  |error e=>exact False.elim h
  |ok fl=>
   cases fl with
   |next=>exact False.elim h
   |brk=>exact False.elim h
   |cont=>exact False.elim h
   |ret u=>
    obtain⟨v,H',os,bare,un,PL,r',q⟩:=h;have q':v=.bl true:=q;subst q';obtain rfl:u=Value.bool true:=r';have kp:∀b o,H b=none->M.heap.get? b=some o->s'.heap.get? b=some o:=λb o n e=>un.keep b o e n (by intro z;exact absurd (show b∈([]:List Addr)from z) (by simp)) (by simp);refine⟨rfl,⟨λb o e=>?_,λb o e=>un.there b o e (by simp)⟩,os,bare⟩;rcases hO b with z|⟨ob,xs,z⟩|⟨u,z⟩
    ·exact .inl (kp b o z e)
    ·have z2:=un.frzs b ob _ z;obtain⟨e1,_⟩:=hok b _ z;obtain⟨e2,_⟩:=PL b _ z2;rw[e]at e1;cases e1;exact .inl e2
    ·obtain⟨e1,e2⟩:=hA b u z;rw[e]at e1;cases e1;obtain⟨ps,e3,_⟩:=PL b _ (un.tbls b u z);exact .inr (.inl ⟨e2,rfl,#[],ps,rfl,by simpa using e3⟩)
 have MX:∀q,O.lookup a≠some q:=λq z=>by
  have:=(ht a q z).1;rw[ha]at this;cases this
 have ta:O.lookup a=none:=by
  cases z:O.lookup a with
  |none=>rfl
  |some q=>exact absurd z (MX q)
 have U:∀(G:Hp) b q,O.lookup b=some q->bN P w (qM O G) M.heap b (.tbl q):=λG b q z=>⟨#[],(ht b q z).1,trivial,λpos cv c=>by cases c⟩;cases hk:K.lookup a with
 |some o=>
  have e:=KX a o hk;rw[ha]at e;cases e
  refine PK (qM O λ_=>none) (λb=>?_) (λb q z=>gG z) (.inr ⟨_,vs.toArray,_,hk,rfl,rfl,rfl,by rw[vH,RZ];exact hl,by simpa using rv⟩) (λb u z=>?_) (λb q z=>?_) (λb o u z=>?_) λb o u z=>?_
  all_goals cases T:O.lookup b with
   |none=>first|exact .inl (j4 T)|(rw[j4 T]at z;cases z)
   |some q'=>first|exact .inr (.inr ⟨q',gG T⟩)|(rw[gG T]at z;cases z;done)|(rw[gG T]at z;cases z;first|exact U _ b _ T|exact ht b _ T)
 |none=>
  refine PK (qM O λb=>if b=a then some (.frz { cls:=.type "list",data:=.seq vs.toArray } (.lst (ns.map V.int)))else none) (λb=>?_) (λb q z=>gG z) (.inl (.inr ⟨{ cls:=.type "list",data:=.seq vs.toArray },by rw[j4 ta,if_pos rfl]⟩)) (λb u z=>?_) (λb q z=>?_) (λb o u z=>?_) λb o u z=>?_
  all_goals cases T:O.lookup b with
   |some q'=>first|exact .inr (.inr ⟨q',gG T⟩)|(rw[gG T]at z;cases z;done)|(rw[gG T]at z;cases z;first|exact U _ b _ T|exact ht b _ T)
   |none=>
    first
    |rw[j4 T]at z
    |rw[j4 T]
    by_cases hb:b=a
    ·first
     |rw[if_pos hb]at z
     |rw[if_pos hb]
     first
     |exact .inr (.inl ⟨_,_,rfl⟩)
     | (cases z;subst hb;exact⟨ha,by rw[vI];exact hl,vs,_,rv,ha⟩)
     |exact hb
     | (rw[hb];exact hk)
     |cases z
    ·first
     | (rw[if_neg hb]at z;cases z)
     |exact .inl (if_neg hb)
noncomputable def xq (L:List (Str×Option (Addr×Addr))):List (Addr×Str):=L.filterMap λp=>p.2.map λq=>(q.2,qz p.1)
structure qr (K:Frag)(L:List (Str×Option (Addr×Addr))):Prop where
 names:L=mK.map λx=>(x,PySem.W.tabIn K x)
 apart:((xq L).map (·.1)).Nodup
 none:PySem.W.noTabs K=true
theorem lK {α G:Type}[BEq α][LawfulBEq α]:∀ {l:List (α×G)}{a:α}{b:G},(l.map (·.1)).Nodup->(a,b)∈l->l.lookup a=some b
 | (c,d)::l,a,b,nd,h=>by
  rw[lookup_cons];rcases vP h with e|h
  ·cases e;simp
  ·have ne:a≠c:=λz=>(nodup_cons.mp nd).1 (by rw[←z];exact uS ⟨(a,b),h,rfl⟩);rw[show(a == c)=false by simpa using ne];exact lK (nodup_cons.mp nd).2 h
theorem kG {α G:Type}[BEq α][LawfulBEq α]:∀ {l:List (α×G)}{a:α}{b:G},l.lookup a=some b->(a,b)∈l
 | (c,d)::l,a,b,h=>by
  rw[lookup_cons]at h;cases e:a == c with
  |true=>rw[e]at h;cases h;rw[eq_of_beq e];exact mX
  |false=>rw[e]at h;exact mZ _ (kG h)
def qr.tb {K:Frag}{L:List (Str×Option (Addr×Addr))}(F:qr K L){H:Hp}(h:∀b q,(xq L).lookup b=some q->H b=some (.tbl q)):Tb K H:=λx hx c P e=>by
 refine h P (qz x) (lK F.apart ?_);rw[F.names];exact mem_filterMap.mpr ⟨(x,PySem.W.tabIn K x),uS ⟨x,hx,rfl⟩,by rw[e];rfl⟩
def tab_yes {K:Frag}{x:Str}{f c P:Addr}{oc M:Value}{od O:Option Addr}{lX G:Array (Option Value)}{fd:FuncData}{vs:AV}(T:nsIn K mainGlobals x=some (some (.ref f)))(e2:K.lookup f=some ⟨oc,od,.func fd,lX⟩)(U:fd.code=.ref c)
  (e4:K.lookup c=some ⟨M,O,.fields vs,G⟩) (e5:vs[11]? = some (.ref P)):PySem.W.tabIn K x=some (c,P):=by unfold PySem.W.tabIn;simp only[T,e2,U,e4,e5]
def tabs_fit {K:Frag}{G M O T:Option (Addr×Addr)}(h0:PySem.W.tabIn K "in_order" = G)(h1:PySem.W.tabIn K "has_seal" = M)(h2:PySem.W.tabIn K "is_first_death" = O)(h3:PySem.W.tabIn K "bases_by" = T)
  (U:((xq [("in_order",G),("has_seal",M),("is_first_death",O),("bases_by",T)]).map (·.1)).Nodup) (nt:PySem.W.noTabs K=true):qr K [("in_order",G),("has_seal",M),("is_first_death",O),("bases_by",T)] :=
 ⟨by subst h0;subst h1;subst h2;subst h3;rfl,U,nt⟩
def walkD {l:PySem.W.OpenLaw}{q:Program}{O:LS}{XP:SV->Heap->Prop}{YP:World->Heap->Prop}{d:DefRec}{K:Params->Frag}{k:Nat}{x:Str}{f:LD->OB}{L:List (Str×Option (Addr×Addr))}(hn:l.most=some 63)(RT:d.params.defaults=[])(hr:eP k callerA)
  (hY:∀(w:World)(h:Heap),YP w h->(K w.params).In h) (hT:∀w:World,qr (K w.params) L) (hD:(L.all λp=>p.2.isNone || ((recsOf q).find? λe=>e.name == p.1).isSome)=true)
  (F:∀(w:World)(mg:SV)(fa:Addr)(h:Heap),(K w.params).In h->h.Ns mainGlobals mg->mg d.name=some (.ref fa) ->
   ∃fd:FuncData,(∀(s:Shared)(u:Value),BindsTo s fd ⟨[u],[]⟩ [(x,u)])/\∀base:Heap,(K w.params).In base->base.Ns mainGlobals mg->tX l.prog w (K w.params) mg base yh k fa fd [x] (Fk (K w.params) f))
  (ht:∀ns:LI,ns.length<=63->∃b,f [.lst (ns.map .int)]=some (.bl true,b)):PySem.W.WalkO q O XP YP l.row.toRowW d [] (λf vs=>PySem.call f vs):=by
 refine Att.yt hn RT λw s₀ s₁ mg mb fa o pm cd doc a vs ns G Y ho hd Kh hmg MT U M hg=>?_;have KX:=hY w _ Y;obtain⟨fd,hb,hF⟩:=F w mg fa _ KX G.T.g hmg;refine D5 (xq L) (λb u e=>?_) (hT w).none KX G.T.g G.T.b G.T.builtins G.T.nolimit G.T.bmain hg MT U (vR M (by decide)) hr hF hb λH hH hS=>?_
 ·obtain⟨p,hp,e2⟩:=mem_filterMap.mp (kG e);obtain⟨⟨c,P⟩,e3,e4⟩:=oY e2;cases e4
  have Sa:=uR hD p hp;rw[e3]at Sa;rw[isNone_some,Bool.false_or]at Sa;obtain⟨r,Wj⟩:=uU Sa;have Wk:PySem.W.tabIn (K w.params) p.1=some (c,P):=by
   rw[(hT w).names]at hp;obtain⟨y,_,rfl⟩:=vO hp;exact e3
  obtain⟨h1,h2⟩:=PySem.W.tab_of G.T KX Wj Wk;exact⟨h2,(h1.tab h2).isCodeTable⟩
 ·obtain⟨b,e⟩:=ht ns M;exact⟨H,_,_,b,⟨.refl H,(hT w).tb hH⟩,.cons (.lst hS (.flat rfl)) .nil,e,λv H' N x' i' _=>by cases i';rfl⟩
def cD.law {P:Program}{w:World}{K:Frag}{mg:SV}{x y:Str}{st:Stmt}{N:LS}{k:Nat}{g:FS}{h:Heap}{fa:Addr}(F:cD K x st)(X:K.In h)(G:h.Ns mainGlobals mg)(M:mg x=some (.ref fa))(S:FnScope N [y] (aK st))
  (O:∀(kV doc pm:Value)(an:Option Addr)(cS ct:Value)(u:Value),bindArgs (fnOf x x (dL st) (bZ st) (aK st) .none kV doc pm an cS ct) ⟨[u],[]⟩=pure [(y,u)])
  (hb:∀(base:Heap),K.In base->base.Ns mainGlobals mg->∀(f:Addr)(cS:Value)(A:Around)(outer:List PySem.Env)(s:Shared)(H:Hp)(E:XK),eP k (A.deeper (envOfC x (aK st) s.heap.objs.size f cS))->uE (oi yh P w K mg base N x (aK st) f cS A outer s H E).nox (bZ st) g):
  ∃fd:FuncData,(∀(s:Shared)(u:Value),BindsTo s fd ⟨[u],[]⟩ [(y,u)])/\∀base:Heap,K.In base->base.Ns mainGlobals mg->tX P w K mg base yh (k+1) fa fd [y] (Fk K (aE g 1 (N.length - 1))):=by
 obtain⟨f,fd,T,a⟩:=F;have e:=M.symm.trans (mg_of X G a);cases e
 refine⟨fd,λs u=>?_,λbase U nb=>OC T S (hb base U nb _)⟩;obtain⟨oc,od,kV,doc,pm,an,cS,ct,lX,rfl,lk,Kh⟩:=T.ex;exact .of_eq (O kV doc pm an cS ct u)
section
variable {X:Cx}{a b e:Expr}{pos:Pos}{x:Str}{p:Pos}
@[simp] noncomputable def ID:D->D->OB
 |.lst xs,.lst ys=>if xs.length+ys.length<=sizeLine then some (.lst (xs++ys),true)else none
 |_,_=>none
def Mb:dQ X (binaryOp .Add) (rD X.K ID):=by
 intro ah s σ H x y v u Q I rx ry q;obtain⟨B,dx,dy,d,bb,T,ix,iy,O,q⟩:=q;cases ix<;>try (cases O;done)
 all_goals (cases iy<;>try (cases O;done))
 rename_i l vs ds h hl l' ws es h' M;simp only[ID]at O;split at O
 ·rename_i hz;cases O
  cases rx
  cases ry
  obtain⟨its,U,p1,z1⟩:=I.list (T.seq h);obtain⟨G,r2,p2,z2⟩:=I.list (T.seq h');obtain⟨⟨c1,d1,t1,s1⟩,o1,e1,n1,k1⟩:=p1.isList;obtain⟨⟨c2,d2,t2,s2⟩,o2,e2,n2,k2⟩:=p2.isList;dsimp only at e1 k1 e2 k2;subst e1;subst k1;subst e2;subst k2;have hsz:its.toArray.size+G.toArray.size<=sizeLine:=by
   rw[vH,vH,←U.length,←r2.length,hl.length,M.length];exact hz
  have ea:its.toArray++G.toArray=(its++G).toArray:=by simp
  refine concat_meets ⟨_,o1,rfl⟩ ⟨_,o2,rfl⟩ noFill_list_add seq_list_add PySem.F.slot_list_add PySem.F.entry_list_add (PySem.F.args_list_add_2 _ _) (list_addW l l' its.toArray G.toArray n1 n2 d1 d2 s1 s2 hsz) ⟨o1,o2,?_⟩;rw[ea];have xt:=Ext.laid (o:=.lst (vs++ws)) T I.fresh;have il:=(hl.append M).mono xt.bn;exact⟨.ref s.heap.objs.size,_,I.lnew (t':=s.toks) (U.append r2) (by rw[uZ,hl.length,M.length];exact hz),rfl,q _ _ _ xt (.lst (iQ.of aC) il) λ_=>⟨_,_,_,rfl,rfl,I.fresh,aC,il⟩⟩
 ·cases O
@[simp] noncomputable def IE:D->D->OB
 |.tup xs,.tup ys=>if xs.length+ys.length<=sizeLine/\xs.isEmpty=false then some (.tup (xs++ys),false)else none
 |_,_=>none
def Mc:dQ X (binaryOp .Add) (rD X.K IE):=by
 refine jK HZ λx y H Q q=>?_;obtain⟨B,dx,dy,d,bb,O,ix,iy,M,q⟩:=q;cases ix<;>try (cases M;done)
 all_goals (cases iy<;>try (cases M;done))
 rename_i l vs ds h hl l' T es h' G;simp only[IE]at M;split at M
 ·rename_i hz;cases M
  have l1:=hl.length;have l2:=G.length;refine⟨l,l',vs,T,rfl,rfl,bC O h,bC O h',λz=>?_,by omega,λz=>?_,λ_ pp hp=>?_⟩
  ·subst z;cases hl
   simp at hz
  ·subst z;cases G
   rw[uQ]at q;exact q.one O (.tup h hl)
  ·have U:=Ext.laid (o:=.tup (vs++T)) O hp;exact q _ _ _ U (.tup (jt.of aC) ((hl.append G).mono U.bn)) (by simp)
 ·cases M
@[simp] noncomputable def Fw:D->D->OB
 |.bl i,.int j=>some (.int ((if i=true then 1 else 0)+j),false)
 |.int i,.bl j=>some (.int (i+b2i j),false)
 |_,_=>none
def Md:dQ X (binaryOp .Add) (rD X.K Fw):=by
 intro ah s σ H x y v u Q I M O q;obtain⟨B,dx,dy,d,bb,T,U,iy,G,q⟩:=q;cases U<;>try (cases G;done)
 all_goals (cases iy<;>try (cases G;done))
 ·simp only[Fw]at G;cases G
  cases M
  obtain⟨t,rfl⟩:=O;exact IntBool.add_bool_int ⟨.int _,H,I.tok _,⟨_,rfl⟩,q.one T (.int _)⟩
 ·simp only[Fw]at G;cases G
  exact Dp ah s σ H _ _ v u Q I M O ⟨_,_,rfl,rfl,q.one T (.int _)⟩
@[simp] noncomputable def eW:D->D->OB
 |.int i,.int j=>some (.int (i+j),false)
 |.str i,.str j=>if i.length+j.length<=sizeLine then some (.str (i++j),false)else none
 |.lst xs,.lst ys=>if xs.length+ys.length<=sizeLine then some (.lst (xs++ys),true)else none
 |.tup xs,.tup ys=>if xs.length+ys.length<=sizeLine/\xs.isEmpty=false then some (.tup (xs++ys),false)else none
 |.bl i,.int j=>some (.int ((if i=true then 1 else 0)+j),false)
 |.int i,.bl j=>some (.int (i+b2i j),false)
 |_,_=>none
def da:dQ X (binaryOp .Add) (rD X.K eW):=by
 refine jK (r:=rD X.K (Hy BR (Hy ID (Hy IE Fw)))) (qC IB (qC Mb (qC Mc Md))) λx y H Q q=>?_;obtain⟨B,dx,M,d,bb,O,T,U,G,q⟩:=q;refine⟨B,dx,M,d,bb,O,T,U,?_,q⟩;cases dx<;>try (cases G;done)
 all_goals (cases M<;>try (cases G;done))
 all_goals (simp[eW]at G;simp[Hy,BR,ID,IE,Fw,G])
@[simp] noncomputable def Ro:D->Option Bool
 |.bl b=>some b
 |_=>none
def ud:LD->Option (List Bool)
 |[]=>some []
 |d::ds=>(Ro d).bind λb=>(ud ds).map (b :: ·)
@[simp] def OJ:ud []=some []:=rfl
@[simp] def D6 (d:D)(ds:LD):ud (d::ds)=(Ro d).bind λb=>(ud ds).map (b :: ·):=rfl
theorem xr {K:Frag}{B:Hp}:∀ {vs:LV}{ds:LD}{bs:List Bool}{its:LU},L2.bu vs its->IsL K B vs ds->ud ds=some bs->its=bs.map Value.bool
 |_,_,_,_,.nil,.nil,e=>by cases e;rfl
 |_,_,_,_,.cons r M,.cons i O,e=>by
  rw[D6]at e;obtain⟨b,G,e⟩:=oX e;obtain⟨bs,e2,e⟩:=oY e;subst e;cases i<;>simp only[Ro]at G<;>try (cases G;done)
  cases G
  cases r
  rw[xr M O e2];rfl
@[simp] def yH:LD->OB
 |[.lst ds]=>(ud ds).map λbs=>(.bl (bs.all id),false)
 |_=>none
@[simp] def Fx:LD->OB
 |[.lst ds]=>(ud ds).map λbs=>(.bl (bs.any id),false)
 |_=>none
def yI (hc:X.calm=true:=by rfl):cA X (.builtin "all") (E1 X.K yH):=by
 intro ah s σ H xs us Q I rs q;obtain⟨B,ds,d,bb,sB,i,G,q⟩:=q;match ds,i,G with
 |[.lst es],.cons i1 .nil,G=>
  obtain⟨bs,eb,G⟩:=oY G;cases G
  obtain⟨u1,rfl,r1⟩:=kg rs;cases i1 with
  |@lst l vs _ h hl=>
   cases r1
   obtain⟨its,rv,T,z1⟩:=I.list (sB.seq h);have ei:=xr rv hl eb;have U:l<s.heap.objs.size:=by obtain⟨_,M,_⟩:=T.isList;exact vX M
   refine call_all_walk (wpAny_pyIter_list T.isList ⟨_,_,_,_,_,_,λj=>(bs[j]?).getD true,rfl,Walks.list (A:=X.A.in1) (I.ok.hd hc) s.heap.objs.size l (vS U) its.toArray,⟨⟨_,vY _ rfl,rfl,rfl⟩,T.isList.push _⟩,λj v s' Q' E' hP hQ=>?_,λh' tk hk=>?_⟩)
   ·have O:its[j]? = some v:=by simpa using hP
    rw[ei,vA]at O;obtain⟨c,e1,e2⟩:=oY O;subst e2;dsimp only at hQ;rw[e1]at hQ;exact wpAny_truthy_bool hQ
   ·have ea:((List.range its.toArray.size).all λj=>(bs[j]?).getD true)=bs.all id:=by
     rw[vH,ei,vI];exact LSm.range_all bs
    rw[ea];refine⟨.bl _,H,I.kept λc o M=>?_,rfl,q.one sB (.bl _)⟩;exact hk c o (λhm=>by rw[uT hm]at M;exact Nat.lt_irrefl _ (vX M)) (vZ _ M)
def K0 (hc:X.calm=true:=by rfl):cA X (.builtin "any") (E1 X.K Fx):=by
 intro ah s σ H xs us Q I rs q;obtain⟨B,ds,d,bb,sB,i,G,q⟩:=q;match ds,i,G with
 |[.lst es],.cons i1 .nil,G=>
  obtain⟨bs,eb,G⟩:=oY G;cases G
  obtain⟨u1,rfl,r1⟩:=kg rs;cases i1 with
  |@lst l vs _ h hl=>
   cases r1
   obtain⟨its,rv,T,z1⟩:=I.list (sB.seq h);have ei:=xr rv hl eb;have U:l<s.heap.objs.size:=by obtain⟨_,M,_⟩:=T.isList;exact vX M
   refine call_any_walk (wpAny_pyIter_list T.isList ⟨_,_,_,_,_,_,λj=>(bs[j]?).getD false,rfl,Walks.list (A:=X.A.in1) (I.ok.hd hc) s.heap.objs.size l (vS U) its.toArray,⟨⟨_,vY _ rfl,rfl,rfl⟩,T.isList.push _⟩,λj v s' Q' E' hP hQ=>?_,λh' tk hk=>?_⟩)
   ·have O:its[j]? = some v:=by simpa using hP
    rw[ei,vA]at O;obtain⟨c,e1,e2⟩:=oY O;subst e2;dsimp only at hQ;rw[e1]at hQ;exact wpAny_truthy_bool hQ
   ·have ea:((List.range its.toArray.size).any λj=>(bs[j]?).getD false)=bs.any id:=by
     rw[vH,ei,vI];exact LSm.range_any bs
    rw[ea];refine⟨.bl _,H,I.kept λc o M=>?_,rfl,q.one sB (.bl _)⟩;exact hk c o (λhm=>by rw[uT hm]at M;exact Nat.lt_irrefl _ (vX M)) (vZ _ M)
def K1:bootBuiltins "any" = some (.builtin "any"):=by decide +kernel
end
noncomputable def Qt (z:Str):It:=⟨λi _=>i<z.cps.size,λi H v H'=>H'=H/\∃c,z.cps[i]? = some c/\v=.str ⟨#[c]⟩,λi _=>z.cps.size<=i⟩
def yJ {P:Program}{w:World}{K:Frag}{tg:Expr}(z:Str)(t:Tok)(it:Addr):Turn P w K tg (Qt z) [it] it (λi h=>h.IsStrIter it "str_ascii_iterator" z t i) where
 mem:=mem_singleton.mpr rfl
 obj:=λi h st b hb=>by
  have T:=uT hb;subst T;obtain⟨o,M,_,d1⟩:=st;exact⟨o,M,λv zz=>by rw[d1]at zz;cases zz⟩
 keep:=λi h h' st k=>let ⟨o,M,r⟩:=st;⟨o,k it (mem_singleton.mpr rfl) o M,r⟩
 item:=by
  intro X U hw hK hc i ah s σ H E I hf st hg;subst U hw hK;have G:i<z.cps.size:=hg;obtain⟨f0,f1,f2,f3,f4,f5⟩:=hf it (mem_singleton.mpr rfl);refine wpAny_pyNext_ascii_item st (c:=z.cps[i]) (by simp[G]) λh' O sb=>?_;obtain⟨o,M,c1,d1⟩:=id O;exact⟨_,rfl,uu (s:={ s with heap:=h',toks:=s.toks+1 }) M c1 d1 (by decide) ⟨.str ⟨#[z.cps[i]]⟩,H,I.turned (λb o hb e2=>(sb.2 b hb).trans e2) f0 f1 f3 f4 f5,⟨_,rfl⟩,⟨rfl,_,by simp[G],rfl⟩,O,λb hb=>(hf b hb).1⟩⟩
 done:=by
  intro X U hw hK hc i ah s σ H E I hf st hg;subst U hw hK;have G:z.cps.size<=i:=hg;obtain⟨f0,f1,f2,f3,f4,f5⟩:=hf it (mem_singleton.mpr rfl);exact wpAny_pyNext_ascii_end (I.ok.hd hc) st (by simp;omega) λh' T=>⟨rfl,I.turned (t':=s.toks) (λb o hb e2=>T b o hb e2) f0 f1 f3 f4 f5⟩
 self:=λ_ _ _ _ _ st h=>wpAny_pyIter_striter_ascii st h
def yK {P:Program}{w:World}{K:Frag}{tg:Expr}(z:Str)(t:Tok)(it:Addr):Turn P w K tg (Qt z) [it] it (λi h=>h.IsStrIter it "str_iterator" z t i) where
 mem:=mem_singleton.mpr rfl
 obj:=λi h st b hb=>by
  have T:=uT hb;subst T;obtain⟨o,M,_,d1⟩:=st;exact⟨o,M,λv zz=>by rw[d1]at zz;cases zz⟩
 keep:=λi h h' st k=>let ⟨o,M,r⟩:=st;⟨o,k it (mem_singleton.mpr rfl) o M,r⟩
 item:=by
  intro X U hw hK hc i ah s σ H E I hf st hg;subst U hw hK;have G:i<z.cps.size:=hg;obtain⟨f0,f1,f2,f3,f4,f5⟩:=hf it (mem_singleton.mpr rfl);refine wpAny_pyNext_wide_item st (c:=z.cps[i]) (by simp[G]) λh' O sb=>?_;obtain⟨o,M,c1,d1⟩:=id O;exact⟨_,rfl,uu (s:={ s with heap:=h',toks:=s.toks+1 }) M c1 d1 (by decide) ⟨.str ⟨#[z.cps[i]]⟩,H,I.turned (λb o hb e2=>(sb.2 b hb).trans e2) f0 f1 f3 f4 f5,⟨_,rfl⟩,⟨rfl,_,by simp[G],rfl⟩,O,λb hb=>(hf b hb).1⟩⟩
 done:=by
  intro X U hw hK hc i ah s σ H E I hf st hg;subst U hw hK;have G:z.cps.size<=i:=hg;obtain⟨f0,f1,f2,f3,f4,f5⟩:=hf it (mem_singleton.mpr rfl);exact wpAny_pyNext_wide_end (I.ok.hd hc) st (by simp;omega) λh' T=>⟨rfl,I.turned (t':=s.toks) (λb o hb e2=>T b o hb e2) f0 f1 f3 f4 f5⟩
 self:=λ_ _ _ _ _ st h=>wpAny_pyIter_striter_wide st h
section
variable {X:Cx}{a b e:Expr}{pos:Pos}{x:Str}{p:Pos}{tg:Expr}
def Fy {l:Expr}{tl:TE}(hl:PE X l tl):PI X tg l (λσ H R=>tl σ H λx G=>∃z,x=.str z/\R (Qt z) G):=by
 intro ah s σ H R I h;refine c9 (hl ah s σ H _ I h) λv s1 ⟨x,G,M,O,T⟩=>?_;obtain⟨z,rfl,q⟩:=T;obtain⟨t,rfl⟩:=O;have fp:∀b∈[s1.heap.objs.size],lZ X ah G b:=λb hb=>by
  rw[uT hb];exact M.fpOk (vT _) (M.hok.fresh (vT _))
 cases ha:z.cps.all (· < 128) with
 |true=>exact wpAny_pyIter_ascii ha ⟨_,[s1.heap.objs.size],_,_,G,rfl,M.kept (t':=s1.toks) λb o e=>vZ _ e,yJ z t _,⟨_,vY _ rfl,rfl,rfl⟩,fp,q⟩
 |false=>exact wpAny_pyIter_wide ha ⟨_,[s1.heap.objs.size],_,_,G,rfl,M.kept (t':=s1.toks) λb o e=>vZ _ e,yK z t _,⟨_,vY _ rfl,rfl,rfl⟩,fp,q⟩
noncomputable def BW (z:Str):LD:=z.cps.toList.map λc=>.str ⟨#[c]⟩
def Fz {K:Frag}{B:Hp}(z:Str):om K (Qt z) B (BW z):=by
 intro i H s;refine⟨λd ed=>?_,λhl=>by unfold BW at hl;show z.cps.size<=i;simpa using hl⟩;unfold BW at ed;rw[vA]at ed;obtain⟨c,O,rfl⟩:=oY ed;have G:z.cps[i]? = some c:=by simpa using O
 refine⟨(Array.getElem?_eq_some_iff.mp G).1,λv H' hy=>?_⟩;obtain⟨rfl,T,M,rfl⟩:=hy;rw[G]at M;cases M;exact⟨B,.refl s,.str _⟩
@[simp] def Me:D->Option LD
 |.lst ds=>some ds
 |.tup ds=>some ds
 |.str z=>some (BW z)
 |_=>none
@[simp] def bP (f:FE):FA:=λρ=>(f ρ).bind λx=>Me x.1
def bK (h:JE X e f):JI X tg e (bP f):=by
 intro ah s σ H R I q;obtain⟨B,ρ,ds,G,r,M,q⟩:=q;obtain⟨O,ex,es⟩:=oX M;obtain⟨xd,xb⟩:=O;cases xd with
 |lst l=>exact BV h ah s σ H R I ⟨B,ρ,ds,G,r,by unfold Fu;rw[ex];exact es,q⟩
 |tup l=>exact BV h ah s σ H R I ⟨B,ρ,ds,G,r,by unfold Fu;rw[ex];exact es,q⟩
 |str z=>
  cases es
  refine Fy h ah s σ H R I ⟨B,ρ,_,_,G,r,ex,λv T N1 U i1 _=>?_⟩;cases i1
  exact⟨z,rfl,q _ T N1 U (Fz z)⟩
 |_=>cases es
def IF:Ez X (λx lo hi H Q=>∃z,x=.str z/\z.length<=sizeLine/\Q (.str (Txt.slice z lo hi)) H):=by
 intro ah s σ H x v vl T lo hi sl Q I O hs pl M h;obtain⟨z,rfl,hz,q⟩:=h;obtain⟨t,rfl⟩:=O;have jv:∀lo hi,Q (.str (Txt.slice z lo hi)) H->(Txt.slice z lo hi).length<=sizeLine/\∀t' k,EP X ah σ Q (.str (Txt.slice z lo hi) t') { s with toks:=k }:=λlo hi q=>
  ⟨vR (Txt.slice_le z _ _) hz,λt' k=>⟨.str _,H,I.tok k,⟨t',rfl⟩,q⟩⟩
 refine⟨"str",_,PySem.F.slot_str_getitem.lookup,typeIs_str _ _ _,?_⟩;cases pl with
 |none=>
  cases M with
  |none=>exact wpAny_getItem_str_slice (l:=none) (u:=none) (st:=none) hs rfl (post_val_or_str (jv _ _ q))
  |int j G=>exact wpAny_getItem_str_slice (l:=none) (u:=some (j,G)) (st:=none) hs rfl (post_val_or_str (jv _ _ q))
 |int i ti=>
  cases M with
  |none=>exact wpAny_getItem_str_slice (l:=some (i,ti)) (u:=none) (st:=none) hs rfl (post_val_or_str (jv _ _ q))
  |int j G=>exact wpAny_getItem_str_slice (l:=some (i,ti)) (u:=some (j,G)) (st:=none) hs rfl (post_val_or_str (jv _ _ q))
def D7 {A:Around}{E:QV}{s:Shared}{prog:Program}{w:World}{t sl:Addr}{items:AV}{vl U:Value}{lo hi:OI}{Q:QV}(G:IsTup s.heap t items)(hs:s.heap.IsSliceOf sl vl U .none)(pl:IsPart vl lo)(pu:IsPart U hi)
  (h0:HT.dS items.size 0 lo=0) (h1:HT.dS items.size items.size hi=items.size) (h:Q (.ref t) s):wpAny (model prog w) A (getItem (.ref t) (.ref sl)) Q E s:=by
 obtain⟨os,M,O,RS⟩:=id hs
 have hT:s.TypeIs (.ref sl) "slice":=⟨os,M,O⟩
 unfold getItem
 try with_reducible refine wpAny_holding ?_
 first|refine wX (wY ?_)|skip
 refine wX (wpAny_sequenceKey G.typeIs (by decide) ?_)
 refine wX (wpAny_callSpecial?_slot (name:=Str.ofString "__getitem__") G.typeIs PyProof.Rows.slot_tuple_getitem (wpAny_call_entry PyProof.Rows.slot_tuple_getitem G.typeIs entry_tuple_getitem ?_ (args_tuple_getitem _ _)))
 show wpAny _ _ (Builtin.Tuple.tupleItemsOf (.ref t)>>=_) _ _ s
 refine wX (tupleItemsOf_ G ?_)
 refine wX (wpAny_typeOf hT ?_)
 rw[if_pos (by decide)]
 refine wX (HT.jx hs pl pu ?_)
 have T:(((HT.dS items.size 0 lo:Nat):Int) == 0 && (1:Int) == 1 && (HT.dS items.size items.size hi - HT.dS items.size 0 lo) == items.size)=true:=by
  rw[h0,h1];simp
 show wpAny _ _ (if(((HT.dS items.size 0 lo:Nat):Int) == 0 && (1:Int) == 1 && (HT.dS items.size items.size hi - HT.dS items.size 0 lo) == items.size)=true then _ else _) _ _ s
 rw[if_pos T]
 refine wX ?_
 unfold Builtin.Tuple.tupleIsExact
 refine wX (wpAny_typeOf G.typeIs (wY ?_))
 show wpAny _ _ (if((Value.type "tuple") == Value.type "tuple")=true then _ else _) _ _ s
 rw[if_pos (by decide)]
 refine wX (wpAny_rule ?_)
 exact wY ⟨_,rfl,wY h⟩
def IG:Ez X (λx lo hi H Q=>∃a xs,x=.ref a/\jt X.K H a xs/\HT.dS xs.length 0 lo=0/\HT.dS xs.length xs.length hi=xs.length/\Q (.ref a) H):=by
 intro ah s σ H x v vl U lo hi sl Q I O hs pl T h;obtain⟨a,xs,rfl,hx,h0,h1,q⟩:=h;cases O
 obtain⟨its,r,M,hz⟩:=I.tuple hx;have G:its.toArray.size=xs.length:=by rw[vH];exact r.length.symm
 refine⟨"tuple",_,PyProof.Rows.slot_tuple_getitem.lookup,M.typeIs,?_⟩;exact D7 M hs pl T (by rw[G];exact h0) (by rw[G];exact h1) ⟨.ref a,H,I,rfl,q⟩
@[simp] def yi (fa:FE)(fl G:FO):FE:=λρ=>(fa ρ).bind λx=>(fl ρ).bind λl=>(G ρ).bind λh=>match x.1 with
 |.lst ds=>some (.lst (lI ds l h),true)
 |.tup ds=>some (.tup (lI ds l h),false)
 |.str z=>if z.length<=sizeLine then some (.str (Txt.slice z l h),false)else none
 |_=>none
def AM {ds:LD}{lo hi:OI}(h0:HT.dS ds.length 0 lo=0)(h1:HT.dS ds.length ds.length hi=ds.length):lI ds lo hi=ds:=by
 unfold lI;rw[h0,h1];simp
def gH {lo hi:Option Expr}{p2:Pos}{fa:FE}{fl fh:FO}(ha:JE X e fa)(hl:JO X lo fl)(hh:JO X hi fh):JE X (.Subscript e (.Slice lo hi none p2) pos) (yi fa fl fh):=by
 refine PE.to (EL (Ez.or (Ez.or Ie L8) (Ez.or IF IG)) ha hl hh) λσ H Q q=>?_;obtain⟨B,ρ,d,b,sB,r,e,q⟩:=q;obtain⟨x,ex,e⟩:=oX e;obtain⟨l,el,e⟩:=oX e;obtain⟨h,eh,e⟩:=oX e;refine⟨B,ρ,x.1,x.2,sB,r,ex,λv H1 N1 G i1 _=>⟨N1,ρ,l,G.nh,r.mono G.bn,el,λH2 h2=>⟨N1,ρ,h,G.nh.trans h2,r.mono G.bn,eh,λH3 h3=>?_⟩⟩⟩;have M:bc N1 H3:=G.nh.trans (h2.trans h3);have T:=q.into (G.trans (.grow G.nh (h2.trans h3)));obtain⟨xd,xb⟩:=x;dsimp only at e i1;cases i1 with
 |@tup U vs ds hs hv=>
  cases e
  by_cases hw:HT.dS ds.length 0 l=0/\HT.dS ds.length ds.length h=ds.length
  ·rw[AM hw.1 hw.2]at T;exact .inr (.inr ⟨U,vs,rfl,bC M hs,by rw[hv.length];exact hw.1,by rw[hv.length];exact hw.2,T.one M (.tup hs hv)⟩)
  ·refine .inl (.inr ⟨U,vs,rfl,bC M hs,by rw[hv.length];exact hw,λp hp=>?_⟩);have O:=Ext.laid (o:=.tup (tZ vs l h)) M hp;exact T _ _ _ O (.tup (jt.of aC) ((xp hv).mono O.bn)) (by simp)
 |@lst U vs ds hs hv=>
  cases e
  refine .inl (.inl ⟨U,vs,rfl,M.seq hs,λp hp=>?_⟩);have O:=Ext.laid (o:=.lst (tZ vs l h)) M hp;exact T _ _ _ O (.lst (iQ.of aC) ((xp hv).mono O.bn)) λ_=>⟨p,_,_,rfl,rfl,hp,aC,(xp hv).mono O.bn⟩
 |str z=>
  dsimp only at e;split at e
  ·rename_i hz;cases e
   exact .inr (.inl ⟨z,rfl,hz,T.one M (.str _)⟩)
  ·cases e
 |_=>cases e
def const_int {K:Frag}{y:Str}{i:Int}{t:Tok}(e:nsIn K mainGlobals y=some (some (.int i t))):∃u v,nsIn K mainGlobals y=some (some u)/\bd v u/\∀B,Is K B v (.int i):=⟨_,.int i,e,⟨t,rfl⟩,λ_=>.int i⟩
noncomputable def xu:Value->D->Bool
 |.none,.non=>true
 |.bool a,.bl b=>a == b
 |.int i _,.int j=>decide (i=j)
 |.str i _,.str j=>decide (i=j)
 |_,_=>false
def jO:LU->LD->Bool
 |[],[]=>true
 |u::us,d::ds=>xu u d && jO us ds
 |_,_=>false
theorem ls {K:Frag}{B:Hp}:∀ {u:Value}{d:D},xu u d=true->∃v,bd v u/\Is K B v d
 |.none,.non,_=>⟨.non,rfl,.non⟩
 |.bool a,.bl b,h=>by
  have:a=b:=eq_of_beq h;subst this;exact⟨.bl a,rfl,.bl a⟩
 |.int i t,.int j,h=>by
  have:i=j:=RV h;subst this;exact⟨.int i,⟨t,rfl⟩,.int i⟩
 |.str i t,.str j,h=>by
  have:i=j:=RV h;subst this;exact⟨.str i,⟨t,rfl⟩,.str i⟩
theorem jP {K:Frag}:∀ {us:LU}{ds:LD},jO us ds=true->∃vs,L2.bu vs us/\∀B,IsL K B vs ds
 |[],[],_=>⟨[],.nil,λ_=>.nil⟩
 |u::us,d::ds,h=>by
  rw[jO,vC]at h;obtain⟨vs,r,i⟩:=jP (K:=K) h.2;obtain⟨v,M,_⟩:=ls (K:=K) (B:=λ_=>none) h.1;refine⟨v::vs,.cons M r,λB=>?_⟩;obtain⟨T,G,U⟩:=ls (K:=K) (B:=B) h.1;have:T=v:=by have O:=M.abs;rw[G.abs]at O;exact vK O
  subst this;exact .cons U (i B)
def const_tup {K:Frag}{y:Str}{a:Addr}{od:Option Addr}{its:AV}{n:Nat}{lX:Array (Option Value)}{ds:LD}(e:nsIn K mainGlobals y=some (some (.ref a)))
  (l:K.lookup a=some ⟨.type "tuple",od,.seq its n,lX⟩) (h:(decide (its.size<=1000) && jO its.toList ds)=true):∃u v,nsIn K mainGlobals y=some (some u)/\bd v u/\∀B,Is K B v (.tup ds):=by
 rw[vC]at h;obtain⟨vs,r,i⟩:=jP (K:=K) h.2;exact⟨_,.ref a,e,rfl,λB=>.tup (.inr ⟨_,its,n,l,rfl,rfl,le_of_lt (lt_of_le_of_lt (RV h.1) (by decide)),r⟩) (i B)⟩
end
section
variable {X:Cx}{a b o e:Expr}{pos:Pos}{x:Str}{p:Pos}{tg:Expr}
@[simp] noncomputable def Mf:D->Option Str
 |.str z=>some z
 |_=>none
def ki:LD->Option LS
 |[]=>some []
 |d::ds=>(Mf d).bind λz=>(ki ds).map (z :: ·)
@[simp] def Nx:ki []=some []:=rfl
@[simp] def AN (d:D)(ds:LD):ki (d::ds)=(Mf d).bind λz=>(ki ds).map (z :: ·):=rfl
@[simp] def Ny (zs:LS):ki (zs.map D.str)=some zs:=by
 induction zs with
 |nil=>rfl
 |cons z zs G=>simp[G]
theorem mQ {K:Frag}{B:Hp}:∀ {vs:LV}{ds:LD}{zs:LS}{its:LU},L2.bu vs its->IsL K B vs ds->ki ds=some zs->StrsAre its zs
 |_,_,_,_,.nil,.nil,e=>by cases e;exact .nil
 |_,_,_,_,.cons r M,.cons i O,e=>by
  rw[AN]at e;obtain⟨z,G,e⟩:=oX e;obtain⟨zs,e2,e⟩:=oY e;subst e;cases i<;>simp only[Mf]at G<;>try (cases G;done)
  cases G
  obtain⟨t,rfl⟩:=r;exact .cons _ t (mQ M O e2)
noncomputable def gW:LN->LD->Env->Option Env
 |[],[],ρ=>some ρ
 |i::is,d::ds,ρ=>gW is ds (ρ.set i (some (d,false)))
 |_,_,_=>none
@[simp] def uJ (ρ:Env):gW [] [] ρ=some ρ:=by rw[gW]
@[simp] def mf (i:Nat)(is:LN)(d:D)(ds:LD)(ρ:Env):gW (i::is) (d::ds) ρ=gW is ds (ρ.set i (some (d,false))):=by rw[gW]
@[simp] def OK (d:D)(ds:LD)(ρ:Env):gW [] (d::ds) ρ=none:=by simp only[gW]
@[simp] def OL (i:Nat)(is:LN)(ρ:Env):gW (i::is) [] ρ=none:=by simp only[gW]
@[simp] def F0 (is:LN):FG:=λd ρ=>match d with|.tup ds=>gW is ds ρ|_=>none
def qN:LN->Lp
 |[]=>Ob
 |i::is=>Ko (jZ i) (qN is)
def F3:bc (dU N (own σ ρ)) (dU N (own (σ.set i (some v)) (ρ.set i (some (d,false))))):=eX λa u e q=>⟨e,λz=>q (by
 rcases xc z with⟨_,d',p⟩|⟨j,_,d',G,M⟩
 ·cases p
 ·exact⟨j,d',G,M⟩)⟩
theorem uK {K:Frag}:∀ {is:LN}{vs:LV}{ds:LD}{B0 H0 N H:Hp}{σ:St}{ρ ρ':Env}{Q:St->Hp->Prop},eM K B0 H0 N H σ ρ->IsL K (dU N (own σ ρ)) vs ds->gW is ds ρ=some ρ'->(∀G,eM K B0 H0 N H G ρ'->Q G H)->qN is vs σ H Q
 |[],_,_,_,_,_,_,_,_,_,_,s,.nil,e,k=>by
  rw[uJ]at e;cases e;exact⟨rfl,k _ s⟩
 |[],_,_,_,_,_,_,_,_,_,_,_,.cons _ _,e,_=>by simp at e
 |_::_,_,_,_,_,_,_,_,_,_,_,_,.nil,e,_=>by simp at e
 |i::is,_,_,_,_,_,_,_,_,_,_,s,.cons h hs,e,k=>by
  rw[mf]at e;exact⟨_,_,rfl,uK (s.bind h) (hs.mono F3) e k⟩
theorem oq:∀ {is:LN}{ds:LD}{ρ ρ':Env},gW is ds ρ=some ρ'->ds.length=is.length
 |[],[],_,_,_=>rfl
 |_::_,_::_,_,_,e=>by rw[mf]at e;simp[oq e]
 |[],_::_,_,_,e=>by simp at e
 |_::_,[],_,_,e=>by simp at e
def OM {K:Frag}{is:LN}:Io K (F0 is) (Lq K is.length (qN is)):=by
 intro B0 H0 N H σ ρ ρ' v d Q s h e k;cases h with
 |@tup a vs ds O hl=>
  have M:gW is ds ρ=some ρ':=e;exact⟨a,vs,rfl,bC (bR.trans s.ext.nh) O,by rw[hl.length];exact oq M,uK s hl M λG s'=>k G H ⟨N,s'⟩⟩
 |_=>cases e
theorem uL {K:Frag}{n:Nat}{B H:Hp}{M:Env}{Q:St->Hp->Prop}(cl:∀i,i<n->M[i]? = some none):∀ {is:LN}{vs:LV}{ds:LD}{σ:St}{ρ O:Env},(∀i∈is,i<n)->fU K B σ ρ->IsL K B vs ds->gW is ds ρ=some O->ρ.length=σ.length->ρ.length=M.length ->
  (∀G,fU K B G O->(∀U,fU K U σ M->fU K U G M)->M.length=G.length->Q G H)->qN is vs σ H Q
 |[],_,_,_,_,_,_,rp,.nil,e,l1,l2,k=>by
  rw[uJ]at e;cases e;exact⟨rfl,k _ rp (λ_ z=>z) (by omega)⟩
 |[],_,_,_,_,_,_,_,.cons _ _,e,_,_,_=>by simp at e
 |_::_,_,_,_,_,_,_,_,.nil,e,_,_,_=>by simp at e
 |i::is,_,_,σ,ρ,_,hn,rp,.cons (v:=v) h hs,e,l1,l2,k=>by
  rw[mf]at e;have hi:=hn i mX;have T:i<σ.length:=by
   have:=(vV (cl i hi)).1;omega
  refine⟨_,_,rfl,uL cl (λj hj=>hn j (mZ _ hj)) ⟨rp.tb,λj d b q=>?_⟩ hs e (by simpa using l1) (by simpa using l2) λG r1 r2 l=>k G r1 (λU z=>r2 U ⟨z.tb,λj d b q=>?_⟩) l⟩
  ·rcases cj q with⟨rfl,pp⟩|⟨ne,pp⟩
   ·cases pp
    exact⟨v,by simp[T],h⟩
   ·obtain⟨w,h1,h2⟩:=rp.at' j d b pp;exact⟨w,by rw[vB ne];exact h1,h2⟩
  ·obtain⟨w,h1,h2⟩:=z.at' j d b q;have ne:i≠j:=λz=>by subst z;rw[cl i hi]at q;cases q
   exact⟨w,by rw[vB ne];exact h1,h2⟩
def K2 {K:Frag}{n:Nat}{is:LN}(hn:∀i∈is,i<n):Kx K n (F0 is) (Lq K is.length (qN is)):=by
 intro B H σ ρ G v d Q cl rep s h e hl k;cases h with
 |@tup a vs ds O hv=>
  have M:gW is ds ρ=some G:=e;exact⟨a,vs,rfl,bC s O,by rw[hv.length];exact oq M,uL cl hn rep hv M hl rfl k⟩
 |_=>cases e
end
section
variable {prog:Program}{w:World}{A:Around}{E:QV}{s:Shared}
def AQ (st:s.heap.IsTupleIter it l i)(G:s.heap.IsTuple l items)(hv:items[i]? = some v)
  (k:∀h',h'.IsTupleIter it l (i+1)->Heap.SameBut it s.heap h'->Q v { s with heap:=h' }):wpAny (model prog w) A (Builtin.SmallTypes.nextOf (.ref it)) Q E s:=by
 obtain⟨T,g1,M,d1⟩:=id st;obtain⟨U,O,_,n2,d2⟩:=G;unfold Builtin.SmallTypes.nextOf;refine wX (wpAny_callSpecial?_slot (name:=Str.ofString "__next__") st.typeIs slot_tuple_iterator_next (wpAny_call_entry slot_tuple_iterator_next st.typeIs PySem.F.entry_tuple_iterator_next ?_ (PySem.F.args_tuple_iterator_next_1 _)));show wpAny _ _ (field (.ref it) 0>>=_) _ _ _;refine wX (wpAny_field g1 d1 (x:=.ref l) rfl ?_);show wpAny _ _ (if(Value.ref l == Value.none)=true then _ else _) _ _ _;rw[if_neg (λz=>uX z:¬((Value.ref l == Value.none)=true))];show wpAny _ _ (field (.ref it) 1>>=_) _ _ _;refine wX (wpAny_field g1 d1 (x:=.int i 0) rfl ?_);show wpAny _ _ (seqItems? (.ref l)>>=_) _ _ _;refine wX (wpAny_seqItems O d2 ?_);simp only[hv,toNat_natCast];refine wX (wpAny_setField g1 d1 (by simp) (wY ⟨v,rfl,wY (k _ ?_ (vW ..))⟩));exact⟨_,Heap.get?_update_self _ g1 (Obj.isFreed_of_fields (Obj.data_mapFields d1 _)),(Obj.cls_mapFields ..).trans M,by rw[Obj.data_mapFields d1];simp[rawInt]⟩
def D8 (G:A.handled=none)(st:s.heap.IsTupleIter it l i)(M:s.heap.IsTuple l items)(hv:items[i]? = none)
  (k:∀h' x,Heap.ExtBut it s.heap h'->(∃o,h'.get? x=some o/\o.cls=.type "StopIteration")->E (.ref x) { s with heap:=h' }):wpAny (model prog w) A (Builtin.SmallTypes.nextOf (.ref it)) Q E s:=by
 obtain⟨T,g1,U,d1⟩:=id st;obtain⟨o2,O,_,n2,d2⟩:=M;unfold Builtin.SmallTypes.nextOf;refine wX (wpAny_callSpecial?_slot (name:=Str.ofString "__next__") st.typeIs slot_tuple_iterator_next (wpAny_call_entry slot_tuple_iterator_next st.typeIs PySem.F.entry_tuple_iterator_next ?_ (PySem.F.args_tuple_iterator_next_1 _)));show wpAny _ _ (field (.ref it) 0>>=_) _ _ _;refine wX (wpAny_field g1 d1 (x:=.ref l) rfl ?_);show wpAny _ _ (if(Value.ref l == Value.none)=true then _ else _) _ _ _;rw[if_neg (λz=>uX z:¬((Value.ref l == Value.none)=true))];show wpAny _ _ (field (.ref it) 1>>=_) _ _ _;refine wX (wpAny_field g1 d1 (x:=.int i 0) rfl ?_);show wpAny _ _ (seqItems? (.ref l)>>=_) _ _ _;refine wX (wpAny_seqItems O d2 ?_);simp only[hv,toNat_natCast];refine wX (wpAny_rule (wX (wpAny_setField g1 d1 (by simp) ?_)));show wpAny _ _ (newExc (.type "StopIteration") []>>=_) _ _ _;refine wX ?_;simp only[newTuple,newExc];refine wX (wpAny_newObj_type ?_ (by size_fits));refine wX (m:=firstArgMember _ _) (wpAny_of_eq (a:=Value.none) (by first|(simp only[firstArgMember];rfl)|rfl) ?_);refine wpAny_newObj_type ?_ (by size_fits);simp only[raiseNew];refine wX (wpAny_handled ?_);first|rw[G]|rw[show A.in1.handled=none from G]
 exact wX (wY (wpAny_throw (k _ _ (((vW ..).extBut.push _).push _) ⟨_,vY _ rfl,rfl⟩)))
end
def lu:Bool->Heap->Addr->Addr->Nat->Prop
 |true,h,it,a,i=>h.IsListIter it a i
 |false,h,it,a,i=>h.IsTupleIter it a i
def kH:Bool->Heap->Addr->AV->Prop
 |true,h,a,items=>h.IsList a items
 |false,h,a,items=>h.IsTuple a items
def mh (k:Bool)(K:Frag)(H:Hp)(a:Addr)(xs:LV):Prop:=match k with|true=>iQ K H a xs|false=>jt K H a xs
def lu.ob (st:lu k h it a i):∃o,h.get? it=some o/\∀v,o.data≠.cell v:=by
 cases k<;>(obtain⟨o,g,_,d⟩:=st;exact⟨o,g,λv z=>by rw[d]at z;cases z⟩)
def lu.upon (st:lu k h it a i)(g:∀o,h.get? it=some o->h'.get? it=some o):lu k h' it a i:=by
 cases k<;>(obtain⟨o,e,r⟩:=st;exact⟨o,g o e,r⟩)
def kH.upon (st:kH k h a items)(g:∀o,h.get? a=some o->h'.get? a=some o):kH k h' a items:=by
 cases k<;>(obtain⟨o,e,r⟩:=st;exact⟨o,g o e,r⟩)
def kH.lt (st:kH k h a items):a<h.objs.size:=by
 cases k<;>(obtain⟨o,e,r⟩:=st;exact vX e)
def mh.same {k:Bool}{K:Frag}{H H':Hp}{a:Addr}{xs:LV}(h:mh k K H a xs)(e:bc H H'):mh k K H' a xs:=by
 cases k
 ·exact bC e h
 ·exact e.seq h
def mh.vals (I:Inv X ah σ H s)(h:mh k X.K H a xs):∃its:LU,bu xs its/\kH k s.heap a its.toArray/\xs.length<=sizeLine:=by
 cases k
 ·exact I.tuple h
 ·obtain⟨its,r,p,z⟩:=I.list h;exact⟨its,r,p.isList,z⟩
def mh.inj (I:Inv X ah σ H s)(h:mh k X.K H a xs)(h':mh k X.K H a ys):xs=ys:=by
 cases k
 ·exact I.tuple_inj h h'
 ·exact I.list_inj h h'
section
variable {prog:Program}{w:World}{A:Around}{E:QV}{s:Shared}
def gd (st:lu k s.heap it l i)(G:kH k s.heap l items)(hv:items[i]? = some v)
  (q:∀h',lu k h' it l (i+1)->Heap.SameBut it s.heap h'->Q v { s with heap:=h' }):wpAny (model prog w) A (Builtin.SmallTypes.nextOf (.ref it)) Q E s:=by
 cases k
 ·exact AQ st G hv q
 ·exact wpAny_nextOf_list_item st G hv q
def j5 (G:A.handled=none)(st:lu k s.heap it l i)(M:kH k s.heap l items)(hv:items[i]? = none)
  (q:∀h' x,Heap.ExtBut it s.heap h'->(∃o,h'.get? x=some o/\o.cls=.type "StopIteration")->E (.ref x) { s with heap:=h' }):wpAny (model prog w) A (Builtin.SmallTypes.nextOf (.ref it)) Q E s:=by
 cases k
 ·exact D8 G st M hv q
 ·exact wpAny_nextOf_list_end G st M hv q
end
noncomputable def HA (k:Bool)(l:Addr):Obj:={ cls:=.type (if k=true then "list_iterator" else "tuple_iterator"),data:=.fields #[.ref l,.int 0 0] }
def mR (G:kH k s.heap l items)
  (q:Q (.ref s.heap.objs.size) { s with heap:=s.heap.push (HA k l) }):wpAny (model prog w) A (pyIter (.ref l)) Q E s:=by
 cases k
 ·exact wpAny_pyIter_tuple G q
 ·exact wpAny_pyIter_list G q
def kH.push (st:kH k h a items)(o:Obj):kH k (h.push o) a items:=st.upon λ_ e=>vZ _ e
section
variable (k1 k2:Bool) (h:Heap) (l1 l2:Addr)
abbrev zA:Heap:=h.push (HA k1 l1)
abbrev zB:Heap:=(zA k1 h l1).push (HA k2 l2)
abbrev zC:Heap:=(zB k1 k2 h l1 l2).push { cls:=.type "tuple",data:=.seq #[.ref h.objs.size,.ref (zA k1 h l1).objs.size] }
abbrev zD:Heap:=(zC k1 k2 h l1 l2).push { cls:=.type "tuple",data:=.seq #[.none,.none] }
abbrev zE:Heap:=(zD k1 k2 h l1 l2).push { cls:=.type "zip",data:=.fields #[.none,.bool false,.bool false,.ref (zB k1 k2 h l1 l2).objs.size,.ref (zC k1 k2 h l1 l2).objs.size] }
end
def AR (k1 k2:Bool)(l1 l2:Addr)(xs ys:AV):Meets (Builtin.«zip.__new__» ⟨[.type "zip",.ref l1,.ref l2],[]⟩) (λ_ R s=>kH k1 s.heap l1 xs/\kH k2 s.heap l2 ys /\
   R (.ok (.ret (.ref (zD k1 k2 s.heap l1 l2).objs.size))) { s with heap:=zE k1 k2 s.heap l1 l2 }) :=
 .of_wp λprog w A R s hs=>by
  obtain⟨hp,g,d,tk,os⟩:=s;obtain⟨M,O,hs⟩:=hs;have G:=sub_zip;have T:kH k1 (Shared.heap ⟨hp,g,d,tk,os⟩) l1 xs:=M;have p2:kH k2 (Shared.heap ⟨hp.push (HA k1 l1),g,d,tk,os⟩) l2 ys:=kH.push O _;wp_walk using mR T,mR p2;exact⟨_,rfl,hs⟩
section
variable {prog:Program}{w:World}{A:Around}{E:QV}{s:Shared}
def BX (q1:kH k1 s.heap l1 xs)(q2:kH k2 s.heap l2 ys)
  (q:∀h',IsZip h' (s.heap.objs.size+4) (s.heap.objs.size+2) (s.heap.objs.size+3) .none->IsPair h' (s.heap.objs.size+2) (.ref s.heap.objs.size) (.ref (s.heap.objs.size+1))->IsPair h' (s.heap.objs.size+3) .none .none ->
   lu k1 h' s.heap.objs.size l1 0->lu k2 h' (s.heap.objs.size+1) l2 0->(∀c o,s.heap.get? c=some o->h'.get? c=some o)->Q (.ref (s.heap.objs.size+4)) { s with heap:=h' }):
  wpAny (model prog w) A (call (.type "zip") [.ref l1,.ref l2]) Q E s:=by
 refine callType_new PySem.F.called_zip (by decide) (PySem.F.typeCall_zip_2 _ _) (PySem.F.newCall_zip_2 _ _) (λobj=>PySem.F.args_object_init_3 obj _ _) PySem.F.entry_zip_new (AR k1 k2 l1 l2 xs ys) ⟨q1,q2,?_⟩;have n1:(zA k1 s.heap l1).objs.size=s.heap.objs.size+1:=Heap.size_push ..;have n2:(zB k1 k2 s.heap l1 l2).objs.size=s.heap.objs.size+2:=by rw[Heap.size_push,n1]
 have n3:(zC k1 k2 s.heap l1 l2).objs.size=s.heap.objs.size+3:=by rw[Heap.size_push,n2]
 have n4:(zD k1 k2 s.heap l1 l2).objs.size=s.heap.objs.size+4:=by rw[Heap.size_push,n3]
 have M:∀ {c o},(zD k1 k2 s.heap l1 l2).get? c=some o->(zE k1 k2 s.heap l1 l2).get? c=some o:=λe=>vZ _ e;have O:∀ {c o},(zC k1 k2 s.heap l1 l2).get? c=some o->(zE k1 k2 s.heap l1 l2).get? c=some o:=λe=>M (vZ _ e);have T:∀ {c o},(zB k1 k2 s.heap l1 l2).get? c=some o->(zE k1 k2 s.heap l1 l2).get? c=some o:=λe=>O (vZ _ e);have U:∀ {c o},(zA k1 s.heap l1).get? c=some o->(zE k1 k2 s.heap l1 l2).get? c=some o:=λe=>T (vZ _ e);have u1:∀ {c o},s.heap.get? c=some o->(zE k1 k2 s.heap l1 l2).get? c=some o:=λe=>U (vZ _ e);have G:(zE k1 k2 s.heap l1 l2).get? (zD k1 k2 s.heap l1 l2).objs.size=some _:=vY _ rfl;have g4:(zE k1 k2 s.heap l1 l2).get? (zC k1 k2 s.heap l1 l2).objs.size=some _:=M (vY _ rfl);have g3:(zE k1 k2 s.heap l1 l2).get? (zB k1 k2 s.heap l1 l2).objs.size=some _:=O (vY _ rfl);have g2:(zE k1 k2 s.heap l1 l2).get? (zA k1 s.heap l1).objs.size=some _:=T (vY _ (by cases k2<;>rfl))
 have g1:(zE k1 k2 s.heap l1 l2).get? s.heap.objs.size=some _:=U (vY _ (by cases k1<;>rfl))
 rw[n2,n3,n4]at G;rw[n1,n2]at g3;rw[n3]at g4;rw[n1]at g2;show _/\_;rw[n4];refine⟨⟨_,G,rfl⟩,q _ G g3 g4 ?_ ?_ λc o e=>u1 e⟩
 ·cases k1<;>exact⟨_,g1,rfl,rfl⟩
 ·cases k2<;>exact⟨_,g2,rfl,rfl⟩
structure ZApart (z TI TO i1 i2:Addr):Prop where
 tz:TI≠z
 oz:TO≠z
 az:i1≠z
 bz:i2≠z
 oa:TO≠i1
 ob:TO≠i2
 to:TI≠TO
 ta:TI≠i1
 tb:TI≠i2
 ab:i1≠i2
def yL {k1 k2:Bool}{z TI TO i1 i2 l1 l2:Addr}{j:Nat}{xs ys:AV}{x y a b:Value}{Q:QV}(D:ZApart z TI TO i1 i2)(m1:l1≠z/\l1≠TO/\l1≠i1)(m2:l2≠z/\l2≠TO/\l2≠i1/\l2≠i2)
  (hz:IsZip s.heap z TI TO .none) (hI:IsPair s.heap TI (.ref i1) (.ref i2)) (hO:IsPair s.heap TO a b) (t1:lu k1 s.heap i1 l1 j) (t2:lu k2 s.heap i2 l2 j) (q1:kH k1 s.heap l1 xs) (q2:kH k2 s.heap l2 ys) (hx:xs[j]? = some x) (hy:ys[j]? = some y)
  (q:∀h',IsZip h' z TI TO (rawInt s.heap.objs.size)->IsPair h' TO x y->lu k1 h' i1 l1 (j+1)->lu k2 h' i2 l2 (j+1)->IsPair h' s.heap.objs.size x y->h'.objs.size=s.heap.objs.size+1 ->
   (∀c o,c≠z->c≠TO->c≠i1->c≠i2->s.heap.get? c=some o->h'.get? c=some o)->Q (.ref s.heap.objs.size) { s with heap:=h' }):
  wpAny (model prog w) A (Builtin.«zip.__next__» ⟨[.ref z],[]⟩) (λjv s'=>∃v,jv=.done (.ret v)/\Q v s') E s:=by
 show wpAny _ _ (field (.ref z) 2>>=_) _ _ s;refine wX (wpAny_field hz rfl (x:=.bool false) rfl ?_);show wpAny _ _ (field (.ref z) 3>>=_) _ _ s;refine wX (wpAny_field hz rfl (x:=.ref TI) rfl (wX (wpAny_seqItems hI rfl ?_)));show wpAny _ _ (Builtin.SmallTypes.ownedTupleIsFree (.ref z)>>=_) _ _ s;refine wX ?_;unfold Builtin.SmallTypes.ownedTupleIsFree;refine wX (wpAny_field hz rfl (x:=.none) rfl (wY ?_));simp only[if_true];refine wX (wpAny_rule (wX (wpAny_field hz rfl (x:=.ref TO) rfl (wX (wpAny_setField_rec hz (by simp) λg1 hz1 s1=>?_)))));replace hz1:IsZip g1 z TI TO .ellipsis:=hz1;refine wX ?_;simp only[forIn_cons,forIn_nil,List.zipIdx_cons,List.zipIdx_nil];refine wX (wX (wpAny_onRaise ?_));show wpAny _ _ (Builtin.SmallTypes.nextOf (.ref i1)>>=_) _ _ { s with heap:=g1 };refine wX (gd (s:={ s with heap:=g1 }) (t1.upon λo e=>s1.extBut _ _ D.az e) (q1.upon λo e=>s1.extBut _ _ m1.1 e) hx λg2 t12 s2=>wY ?_);have PM:IsPair g2 TO a b:=s2.extBut _ _ D.oa (s1.extBut _ _ D.oz hO);refine wX (wpAny_seqItems PM rfl (wX (wpAny_updateSeq_pair PM λg3 hO3 s3=>?_)));replace hO3:IsPair g3 TO x b:=hO3;refine wX (wpAny_letGo (wY (wX (wX (wpAny_onRaise ?_)))));show wpAny _ _ (Builtin.SmallTypes.nextOf (.ref i2)>>=_) _ _ { s with heap:=g3 };have Sb:∀ {c o},c≠z->c≠TO->c≠i1->s.heap.get? c=some o->g3.get? c=some o:=λM c2 c3 e=>s3.extBut _ _ c2 (s2.extBut _ _ c3 (s1.extBut _ _ M e));refine wX (gd (s:={ s with heap:=g3 }) (t2.upon λo e=>Sb D.bz D.ob.symm D.ab.symm e) (q2.upon λo e=>Sb m2.1 m2.2.1 m2.2.2.1 e) hy λg4 t24 s4=>wY ?_);have TY:IsPair g4 TO x b:=s4.extBut _ _ D.ob hO3;refine wX (wpAny_seqItems TY rfl (wX (wpAny_updateSeq_pair TY λG O s5=>?_)));replace O:IsPair G TO x y:=O;refine wX (wpAny_letGo (wY (wY (wX (wpAny_seqItems O rfl (wX (wpAny_newTuple ?_)))))));have sz:G.objs.size=s.heap.objs.size:=by rw[s5.1,s4.1,s3.1,s2.1,s1.1]
 have Wl:∀c o,c≠z->c≠TO->c≠i1->c≠i2->s.heap.get? c=some o->G.get? c=some o:=λc o M c2 c3 c4 e=>s5.extBut _ _ c2 (s4.extBut _ _ c4 (Sb M c2 c3 e));have TZ:IsZip G z TI TO .ellipsis:=s5.extBut _ _ D.oz.symm (s4.extBut _ _ D.bz.symm (s3.extBut _ _ D.oz.symm (s2.extBut _ _ D.az.symm hz1)));have Wm:lu k1 G i1 l1 (j+1):=t12.upon λo e=>s5.extBut _ _ D.oa.symm (s4.extBut _ _ D.ab (s3.extBut _ _ D.oa.symm e));have Wn:lu k2 G i2 l2 (j+1):=t24.upon λo e=>s5.extBut _ _ D.ob.symm e;have Ua:z<G.objs.size:=vX TZ;show wpAny _ _ (Builtin.SmallTypes.ownedTupleHandOut (.ref z) (.ref G.objs.size)>>=_) _ _ { s with heap:=G.push { cls:=.type "tuple",data:=.seq #[x,y] } };refine wX ?_;unfold Builtin.SmallTypes.ownedTupleHandOut;have Wo:IsZip (G.push { cls:=.type "tuple",data:=.seq #[x,y] }) z TI TO .ellipsis:=vZ _ TZ;refine wX (wpAny_setField_rec Wo (by simp) λg7 hz7 s7=>?_);replace hz7:IsZip g7 z TI TO (rawInt G.objs.size):=hz7;refine wpAny_setField_rec hz7 (by simp) λg8 T s8=>?_;replace T:IsZip g8 z TI TO (rawInt G.objs.size):=T;have U:∀c o,c≠z->G.get? c=some o->g8.get? c=some o:=λc o M e=>s8.extBut _ _ M (s7.extBut _ _ M (vZ _ e));have Ub:IsPair g8 G.objs.size x y:=s8.extBut _ _ (ne_of_gt Ua) (s7.extBut _ _ (ne_of_gt Ua) (vY _ rfl));have Uc:g8.objs.size=G.objs.size+1:=by rw[s8.1,s7.1,Heap.size_push]
 rw[sz]at T Ub Uc;refine wY ⟨_,rfl,?_⟩;show Q (.ref G.objs.size) _;rw[sz];exact q g8 T (U _ _ D.oz O) (Wm.upon λo e=>U _ o D.az e) (Wn.upon λo e=>U _ o D.bz e) Ub Uc λc o M c2 c3 c4 e=>U c o M (Wl c o M c2 c3 c4 e)
end
section
variable {prog:Program}{w:World}{A:Around}{E:QV}{s:Shared}
def BY {k1 k2:Bool}{z TI TO i1 i2 l1 l2:Addr}{j:Nat}{xs ys:AV}{a b:Value}{Q:PySem.Fin->Shared->Prop}(hA:A.handled=none)(D:ZApart z TI TO i1 i2)(m1:l1≠z/\l1≠TO/\l1≠i1)(m2:l2≠z/\l2≠TO/\l2≠i1/\l2≠i2)
  (hz:IsZip s.heap z TI TO .none) (hI:IsPair s.heap TI (.ref i1) (.ref i2)) (hO:IsPair s.heap TO a b) (t1:lu k1 s.heap i1 l1 j) (t2:lu k2 s.heap i2 l2 j) (q1:kH k1 s.heap l1 xs) (q2:kH k2 s.heap l2 ys) (he:xs[j]? = none∨ys[j]? = none)
  (q:∀h' x,(∀c o,c≠z->c≠TO->c≠i1->c≠i2->s.heap.get? c=some o->h'.get? c=some o)->(∃o,h'.get? x=some o/\o.cls=.type "StopIteration")->E (.ref x) { s with heap:=h' }):
  wpAny (model prog w) A (Builtin.«zip.__next__» ⟨[.ref z],[]⟩) Q E s:=by
 show wpAny _ _ (field (.ref z) 2>>=_) _ _ s;refine wX (wpAny_field hz rfl (x:=.bool false) rfl ?_);show wpAny _ _ (field (.ref z) 3>>=_) _ _ s;refine wX (wpAny_field hz rfl (x:=.ref TI) rfl (wX (wpAny_seqItems hI rfl ?_)));show wpAny _ _ (Builtin.SmallTypes.ownedTupleIsFree (.ref z)>>=_) _ _ s;refine wX ?_;unfold Builtin.SmallTypes.ownedTupleIsFree;refine wX (wpAny_field hz rfl (x:=.none) rfl (wY ?_));simp only[if_true];refine wX (wpAny_rule (wX (wpAny_field hz rfl (x:=.ref TO) rfl (wX (wpAny_setField_rec hz (by simp) λg1 G s1=>?_)))));replace G:IsZip g1 z TI TO .ellipsis:=G;refine wX ?_;simp only[forIn_cons,forIn_nil,List.zipIdx_cons,List.zipIdx_nil];refine wX (wX (wpAny_onRaise ?_));show wpAny _ _ (Builtin.SmallTypes.nextOf (.ref i1)>>=_) _ _ { s with heap:=g1 };cases hx:xs[j]? with
 |none=>
  refine wX (j5 (s:={ s with heap:=g1 }) hA (t1.upon λo e=>s1.extBut _ _ D.az e) (q1.upon λo e=>s1.extBut _ _ m1.1 e) hx λg2 x s2 hX=>?_);obtain⟨oU,M,U⟩:=hX;have QA:IsZip g2 z TI TO .ellipsis:=s2 _ _ D.az.symm G;have nz:x≠z:=λz'=>by subst z';rw[QA]at M;cases M;simp at U
  exact wpAny_setField_rec QA (by simp) λg3 _ s3=>q g3 x (λc o O _ c3 _ e=>s3.extBut _ _ O (s2 _ _ c3 (s1.extBut _ _ O e))) ⟨oU,s3.extBut _ _ nz M,U⟩
 |some v=>
  have hy:ys[j]? = none:=by
   rcases he with h|h
   ·rw[hx]at h;cases h
   ·exact h
  refine wX (gd (s:={ s with heap:=g1 }) (t1.upon λo e=>s1.extBut _ _ D.az e) (q1.upon λo e=>s1.extBut _ _ m1.1 e) hx λg2 t12 s2=>wY ?_);have PM:IsPair g2 TO a b:=s2.extBut _ _ D.oa (s1.extBut _ _ D.oz hO);refine wX (wpAny_seqItems PM rfl (wX (wpAny_updateSeq_pair PM λg3 hO3 s3=>?_)));refine wX (wpAny_letGo (wY (wX (wX (wpAny_onRaise ?_)))));show wpAny _ _ (Builtin.SmallTypes.nextOf (.ref i2)>>=_) _ _ { s with heap:=g3 };have T:∀ {c o},c≠z->c≠TO->c≠i1->s.heap.get? c=some o->g3.get? c=some o:=λO c2 c3 e=>s3.extBut _ _ c2 (s2.extBut _ _ c3 (s1.extBut _ _ O e));refine wX (j5 (s:={ s with heap:=g3 }) hA (t2.upon λo e=>T D.bz D.ob.symm D.ab.symm e) (q2.upon λo e=>T m2.1 m2.2.1 m2.2.2.1 e) hy λg4 x s4 hX=>?_);obtain⟨oU,M,U⟩:=hX;have Ud:IsZip g4 z TI TO .ellipsis:=s4 _ _ D.bz.symm (s3.extBut _ _ D.oz.symm (s2.extBut _ _ D.az.symm G));have nz:x≠z:=λz'=>by subst z';rw[Ud]at M;cases M;simp at U
  exact wpAny_setField_rec Ud (by simp) λg5 _ s5=>q g5 x (λc o O c2 c3 c4 e=>s5.extBut _ _ O (s4 _ _ c4 (T O c2 c3 e))) ⟨oU,s5.extBut _ _ nz M,U⟩
end
def jQ {X:Cx}{ah:AO}{σ:St}{H:Hp}{s:Shared}{h':Heap}{t':Nat}{ch:List Addr}(I:Inv X ah σ H s)(f:∀b∈ch,lZ X ah H b)(k:∀b o,b∉ch->s.heap.get? b=some o->h'.get? b=some o):Inv X ah σ H { s with heap:=h',toks:=t' }:=by
 have G:∀b u,H b=some u->b∉ch:=λb u e z=>by rw[(f b z).1]at e;cases e
 refine I.step (g':=s.gens) (d':=s.drawn) (ch:=ch) (λb hb=>?_) (λb o _ _ hc e _=>k b o hc e) (λb o _ _ hc e _=>⟨o.slots,k b o hc e⟩) (λ_ _ _ _ n=>n)
  (λb o hc e=>⟨o,k b o hc e⟩) (λ_ _ e=>e) (λ_ _ _ e=>e) (λ_ _ e=>e) (λm hm=>?_) (λb u e=>?_) I.bare
 ·obtain⟨_,f1,_,f3,f4,f5⟩:=f b hb;exact⟨f3,f1,f4,f5⟩
 ·obtain⟨o,es,M,O,r⟩:=hm;exact⟨o,es,M,k _ o (λz=>(f _ z).2.1 rfl) O,r⟩
 ·refine(I.hok b u e).stay (λc v hc q=>k c v ?_ q) (λ_ q=>q) (λ_ _ q=>q) λ_ _ _ q=>q;rcases hc with z|z
  ·rw[z];exact G b u e
  ·exact G c _ z
def BZ {X:Cx}{ah:AO}{σ:St}{H:Hp}{s:Shared}{h':Heap}{t':Nat}{ch:List Addr}{a:Addr}{ob:HO}(I:Inv X ah σ H s)(f:∀b∈ch,lZ X ah H b)(k:∀b o,b∉ch->s.heap.get? b=some o->h'.get? b=some o)(ha:s.heap.objs.size<=a)
  (new:bN X.prog X.w (upd H a ob) h' a ob):Inv X ah σ (upd H a ob) { s with heap:=h',toks:=t' }:=by
 have hn:H a=none:=I.hok.fresh ha;have G:∀b u,H b=some u->b∉ch:=λb u e z=>by rw[(f b z).1]at e;cases e
 have M:∀b o,s.heap.get? b=some o->b≠a:=λb o e=>vS (vQ (vX e) ha);refine I.step (g':=s.gens) (d':=s.drawn) (ch:=ch) (λb hb=>?_) (λb o _ _ hc e _=>k b o hc e) (λb o _ _ hc e _=>⟨o.slots,k b o hc e⟩) (λb o _ e n=>by rw[aG (M b o e)];exact n)
  (λb o hc e=>⟨o,k b o hc e⟩) (λb xs e=>by rw[aG (bf e hn)];exact e) (λb o u e=>by rw[aG (bf e hn)];exact e) (λb ps e=>by rw[aG (bf e hn)];exact e) (λm hm=>?_) (λb u e=>?_) I.bare
 ·obtain⟨_,f1,_,f3,f4,f5⟩:=f b hb;exact⟨f3,f1,f4,f5⟩
 ·obtain⟨o,es,O,T,r⟩:=hm;exact⟨o,es,O,k _ o (λz=>(f _ z).2.1 rfl) T,r⟩
 ·by_cases hb:b=a
  ·subst hb;rw[aC]at e;cases e;exact new
  ·rw[aG hb]at e;refine(I.hok b u e).stay (λc v hc q=>k c v ?_ q) (λc q=>?_) (λc xs q=>?_) λc o xs q=>?_
   ·rcases hc with z|z
    ·rw[z];exact G b u e
    ·exact G c _ z
   ·rw[aG (bf q hn)];exact q
   ·rw[aG (bf q hn)];exact q
   ·rw[aG (bf q hn)];exact q
noncomputable def Rp (K:Frag)(k1 k2:Bool)(G M:Addr):It :=
  ⟨λi H=>∃xs ys x y,mh k1 K H G xs/\mh k2 K H M ys/\xs[i]? = some x/\ys[i]? = some y,
   λi H v H'=>∃T x y,v=.ref T/\H T=none/\H'=upd H T (.tup [x,y])/\(∀xs,mh k1 K H G xs->xs[i]? = some x)/\(∀ys,mh k2 K H M ys->ys[i]? = some y),
   λi H=>∃xs ys,mh k1 K H G xs/\mh k2 K H M ys/\(xs.length<=i∨ys.length<=i)⟩
def F4 {P:Program}{w:World}{K:Frag}{es:QD}{kt:Nat}{pt:Pos}{k1 k2:Bool}{a1 a2 z TI TO i1 i2:Addr}(D:ZApart z TI TO i1 i2)(m1:a1≠z/\a1≠TO/\a1≠i1)(m2:a2≠z/\a2≠TO/\a2≠i1/\a2≠i2):
  Turn P w K (.Tuple es kt pt) (Rp K k1 k2 a1 a2) [z,TI,TO,i1,i2] z (λi h=>IsZip h z TI TO .none/\IsPair h TI (.ref i1) (.ref i2)/\(∃a b,IsPair h TO a b)/\lu k1 h i1 a1 i/\lu k2 h i2 a2 i) where
 mem:=by simp
 obj:=λi h st b hb=>by
  obtain⟨hz,M,⟨a,c,O⟩,U,t2⟩:=st;simp at hb;rcases hb with rfl|rfl|rfl|rfl|rfl
  ·exact⟨_,hz,λv z=>by cases z⟩
  ·exact⟨_,M,λv z=>by cases z⟩
  ·exact⟨_,O,λv z=>by cases z⟩
  ·exact U.ob
  ·exact t2.ob
 keep:=λi h h' st k=>by
  obtain⟨hz,M,⟨a,c,O⟩,U,t2⟩:=st;exact⟨k z (by simp) _ hz,k TI (by simp) _ M,⟨a,c,k TO (by simp) _ O⟩,U.upon λo e=>k i1 (by simp) o e,t2.upon λo e=>k i2 (by simp) o e⟩
 item:=by
  intro X hP hw hK hc i ah s σ H E I hf st hg;subst hP hw hK;obtain⟨hz,M,⟨a,c,O⟩,U,t2⟩:=st;obtain⟨xs,ys,x,y,q1,q2,hx,hy⟩:=hg;obtain⟨its,r1,p1,z1⟩:=q1.vals I;obtain⟨B8,r2,p2,z2⟩:=q2.vals I;obtain⟨u,hu,ru⟩:=r1.get hx;obtain⟨v,hv,rv⟩:=r2.get hy;have hT:s.TypeIs (.ref z) "zip":=⟨_,hz,rfl⟩;have fresh:H s.heap.objs.size=none:=I.hok.fresh (vT _);have lt:∀ {c o},s.heap.get? c=some o->c≠s.heap.objs.size:=λe=>vS (vX e);have l1:i1≠s.heap.objs.size:=by obtain⟨o,e,_⟩:=U.ob;exact lt e
  have l2:i2≠s.heap.objs.size:=by obtain⟨o,e,_⟩:=t2.ob;exact lt e
  unfold pyNext;refine wX (wpAny_attempt (wpAny_callSpecial?_slot (name:=Str.ofString "__next__") hT slot_zip_next (wpAny_call_entry slot_zip_next hT entry_zip_next (yL D m1 m2 hz M O U t2 p1 p2 (by simpa using hu) (by simpa using hv) λh' b1 b2 b3 b4 b5 b6 bk=>wY ?_) (args_zip_next_1 _))));refine⟨_,rfl,wpAny_letOwnedTupleGo_zip (s:={ s with heap:=h' }) b1 λh2 c1 s2=>?_⟩;have G:Heap.SameBut z h' h2:=s2;have kk:∀b o,b∉[z,TI,TO,i1,i2]->s.heap.get? b=some o->h2.get? b=some o:=λb o hb e=>
   G.extBut _ _ (λq=>hb (by simp[q])) (bk b o (λq=>hb (by simp[q])) (λq=>hb (by simp[q])) (λq=>hb (by simp[q])) (λq=>hb (by simp[q])) e)
  have I1:Inv X ah σ H { s with heap:=h2 }:=jQ (t':=s.toks) I hf kk;have zT:s.heap.objs.size≠z:=(lt hz).symm;have new:bN X.prog X.w (upd H s.heap.objs.size (.tup [x,y])) h2 s.heap.objs.size (.tup [x,y]):=⟨by show 2<=sizeLine;decide,[u,v],.cons ru (.cons rv .nil),⟨_,G.extBut _ _ zT b5,rfl,_,rfl⟩⟩;refine⟨.ref s.heap.objs.size,upd H s.heap.objs.size (.tup [x,y]),?_,rfl,⟨_,x,y,rfl,fresh,rfl,λzs hq=>by rw[mh.inj I hq q1];exact hx,λzs hq=>by rw[mh.inj I hq q2];exact hy⟩,?_,λb hb=>?_⟩
  ·exact BZ (s:=s) (t':=s.toks) I hf kk (vT _) new
  ·exact⟨c1,G.extBut _ _ D.tz (bk _ _ D.tz D.to D.ta D.tb M),⟨_,_,G.extBut _ _ D.oz b2⟩,b3.upon λo e=>G.extBut _ _ D.az e,b4.upon λo e=>G.extBut _ _ D.bz e⟩
  ·have E6:b≠s.heap.objs.size:=by
    simp at hb;rcases hb with rfl|rfl|rfl|rfl|rfl
    ·exact lt hz
    ·exact lt M
    ·exact lt O
    ·exact l1
    ·exact l2
   rw[aG E6];exact(hf b hb).1
 done:=by
  intro X hP hw hK hc i ah s σ H E I hf st hg;subst hP hw hK;obtain⟨hz,M,⟨a,c,O⟩,U,t2⟩:=st;obtain⟨xs,ys,q1,q2,hl⟩:=hg;obtain⟨its,r1,p1,z1⟩:=q1.vals I;obtain⟨B8,r2,p2,z2⟩:=q2.vals I;have hT:s.TypeIs (.ref z) "zip":=⟨_,hz,rfl⟩;have n1:=r1.length;have n2:=r2.length;unfold pyNext;refine wX (wpAny_attempt (wpAny_callSpecial?_slot (name:=Str.ofString "__next__") hT slot_zip_next (wpAny_call_entry slot_zip_next hT entry_zip_next (BY (I.ok.hd hc) D m1 m2 hz M O U t2 p1 p2 (hl.imp (λq=>by simp;omega) λq=>by simp;omega) λh' x hk hX=>?_) (args_zip_next_1 _))));obtain⟨o,eo,co⟩:=hX;refine wX (wpAny_isInstance (T:="StopIteration") (b:=true) ⟨o,eo,co⟩ isSubtype_stop (wY ⟨rfl,?_⟩));exact jQ (t':=s.toks) I hf λb o hb e=>hk b o (λq=>hb (by simp[q])) (λq=>hb (by simp[q])) (λq=>hb (by simp[q])) (λq=>hb (by simp[q])) e
 self:=λ_ _ _ _ _ st h=>wpAny_pyIter_zip st.1 h
section
variable {X:Cx}{a b e:Expr}{pos:Pos}{p:Pos}
def K3:bootBuiltins "zip" = some (.type "zip"):=by decide +kernel
def ON (K:Frag)(ta:TA):TI:=λσ H R=>ta σ H λvs G=>∃(k1 k2:Bool)(l1 l2:Addr)(xs ys:LV),vs=[.ref l1,.ref l2]/\mh k1 K G l1 xs/\mh k2 K G l2 ys/\R (Rp K k1 k2 l1 l2) G
def Mg {es:QD}{kt:Nat}{pt:Pos}{ta:TA}(hg:Gl X "zip")(hm:X.mg "zip" = none)(ha:PA X [a,b] ta)(hs:starEach [a,b] X.env=[(false,eval a X.env),(false,eval b X.env)]:=by rfl)(O:starEach [b] X.env=[(false,eval b X.env)]:=by rfl):
  PI X (.Tuple es kt pt) (.Call (.Name "zip" p) [a,b] [] pos) (ON X.K ta):=by
 intro ah s σ H R I h;refine Call_ (je I hg hm K3 (PyProof.Rows.callWith_type1 (c9 (ha pos ah s σ H _ I h) λus s1 ⟨vs,H1,T,r1,q1⟩=>?_) (by rw[hs,O]) (by rw[O];rfl)));obtain⟨k1,k2,l1,l2,xs,ys,rfl,h1,h2,q⟩:=q1;obtain⟨u1,u2,rfl,PP,Sc⟩:=r1.two;cases PP
 cases Sc
 obtain⟨its,v1,p1,z1⟩:=h1.vals T;obtain⟨B8,v2,p2,z2⟩:=h2.vals T;have E3:=p1.lt;have G:=p2.lt;refine BX p1 p2 λh' c1 c2 c3 c4 c5 ck=>?_;have D:ZApart (s1.heap.objs.size+4) (s1.heap.objs.size+2) (s1.heap.objs.size+3) s1.heap.objs.size (s1.heap.objs.size+1):=by
  constructor<;>(intro z;exact absurd z (by first|exact vS (Nat.add_lt_add_left (by decide) _)|exact ne_of_gt (Nat.add_lt_add_left (by decide) _)|exact vS (Nat.lt_add_of_pos_right (by decide))|exact ne_of_gt (Nat.lt_add_of_pos_right (by decide))))
 have M:∀ {l:Addr}(n:Nat),l<s1.heap.objs.size->l≠s1.heap.objs.size+n:=λn hl=>vS (vQ hl (le_add_right _ n));refine wpAny_pyIter_zip c1 ⟨s1.heap.objs.size+4,[s1.heap.objs.size+4,s1.heap.objs.size+2,s1.heap.objs.size+3,s1.heap.objs.size,s1.heap.objs.size+1],_,_,H1,rfl,T.kept (t':=s1.toks) ck,
  F4 D ⟨M 4 E3,M 3 E3,M 0 E3⟩ ⟨M 4 G,M 3 G,M 0 G,M 1 G⟩,⟨c1,c2,⟨_,_,c3⟩,c4,c5⟩,λb hb=>?_,q⟩
 have U:s1.heap.objs.size<=b:=by
  simp at hb;rcases hb with rfl|rfl|rfl|rfl|rfl
  ·exact le_add_right _ 4
  ·exact le_add_right _ 2
  ·exact le_add_right _ 3
  ·exact vT _
  ·exact le_add_right _ 1
 exact T.fpOk U (T.hok.fresh U)
noncomputable def ji (xs ys:LD):LD:=List.zipWith (λx y=>.tup [x,y]) xs ys
@[simp] def F5 (fa G:FE):FA:=λρ=>(fa ρ).bind λx=>(G ρ).bind λy=>(fY x.1).bind λxs=>(fY y.1).map λys=>ji xs ys
def yM {K:Frag}{B:Hp}{v:V}{d:D}{ds:LD}(h:Is K B v d)(e:fY d=some ds):∃k a vs,v=.ref a/\mh k K B a vs/\IsL K B vs ds:=by
 cases h with
 |tup G hl=>cases e;exact⟨false,_,_,rfl,G,hl⟩
 |lst G hl=>cases e;exact⟨true,_,_,rfl,G,hl⟩
 |_=>cases e
def Mh {H s}(I:Inv X ah σ H s)(h1:mh k1 X.K N l1 vs)(i1:IsL X.K N vs ds)(h2:mh k2 X.K N l2 ws)(i2:IsL X.K N ws es):om X.K (Rp X.K k1 k2 l1 l2) N (ji ds es):=by
 intro i H' G;have n1:=i1.length;have n2:=i2.length;refine⟨λd ed=>?_,λhl=>⟨vs,ws,h1.same G,h2.same G,?_⟩⟩
 ·unfold ji at ed;rw[List.getElem?_zipWith]at ed;cases M:ds[i]? with
  |none=>rw[M]at ed;simp at ed
  |some x=>
   cases e2:es[i]? with
   |none=>rw[M,e2]at ed;simp at ed
   |some y=>
    rw[M,e2]at ed;simp at ed;subst ed;obtain⟨v,U,iv⟩:=i1.get M;obtain⟨w,ew,iw⟩:=i2.get e2;refine⟨⟨vs,ws,v,w,h1.same G,h2.same G,U,ew⟩,λr H2 hy=>?_⟩;obtain⟨T,v',w',rfl,hT,rfl,f1,f2⟩:=hy;have e3:=f1 vs (h1.same G);have e4:=f2 ws (h2.same G);rw[U]at e3;cases e3;rw[ew]at e4;cases e4;have O:=Ext.laid (o:=.tup [v,w]) G hT;exact⟨_,O,.tup (jt.of aC) (.cons (iv.mono O.bn) (.cons (iw.mono O.bn) .nil))⟩
 ·unfold ji at hl;rw[List.length_zipWith]at hl;omega
def F6 {es:QD}{kt:Nat}{pt:Pos}{fa fb:FE}(hm:X.mg "zip" = none)(ha:JE X a fa)(hb:JE X b fb)(hg:Gl X "zip":=by rfl)(hs:starEach [a,b] X.env=[(false,eval a X.env),(false,eval b X.env)]:=by rfl)(M:starEach [b] X.env=[(false,eval b X.env)]:=by rfl):
  JI X (.Tuple es kt pt) (.Call (.Name "zip" p) [a,b] [] pos) (F5 fa fb):=by
 intro ah s σ H R I q;refine Mg hg hm (ai ha (ai hb ao M) (by rw[hs,M])) hs M ah s σ H R I ?_;obtain⟨B,ρ,ds,sB,r,G,q⟩:=q;obtain⟨x1,ex,G⟩:=oX G;obtain⟨y1,ey,G⟩:=oX G;obtain⟨xs,O,G⟩:=oX G;obtain⟨ys,T,G⟩:=oY G;subst G;refine⟨B,ρ,[x1.1,y1.1],sB,r,by simp[ag,aj,ex,ey],λvs H1 N1 U i1=>?_⟩;cases i1 with
 |cons j1 j2=>
  cases j2 with
  |cons j2 j3=>
   cases j3
   obtain⟨k1,l1,us,rfl,s1,m1⟩:=yM j1 O;obtain⟨k2,l2,ws,rfl,s2,m2⟩:=yM j2 T;exact⟨k1,k2,l1,l2,us,ws,rfl,s1.same U.nh,s2.same U.nh,q _ H1 N1 U (Mh I s1 m1 s2 m2)⟩
end
noncomputable def unown1 (ρ:Env)(i:Nat):Env:=match ρ[i]? with
 |some (some (d,true))=>ρ.set i (some (d,false))
 |_=>ρ
def eM.unown1 {K:Frag}{B0 H0 N H:Hp}{σ:St}{ρ:Env}(s:eM K B0 H0 N H σ ρ)(i:Nat):eM K B0 H0 N H σ (unown1 ρ i):=by
 unfold DL.unown1;split
 ·rename_i d hd;obtain⟨a,ob,h1,h2,h3,h4⟩:=s.ow i d hd;have get:∀ {j:Nat}{e:D}{b:Bool},(ρ.set i (some (d,false)))[j]? = some (some (e,b))->(i=j/\e=d/\b=false)∨(i≠j/\ρ[j]? = some (some (e,b))):=λq=>by
   rcases cj q with⟨z,p⟩|⟨z,p⟩
   ·cases p;exact .inl ⟨z,rfl,rfl⟩
   ·exact .inr ⟨z,p⟩
  have o:∀c,own σ (ρ.set i (some (d,false))) c->own σ ρ c/\c≠a:=λc ⟨j,e,O,M⟩=>by
   rcases get O with⟨_,_,z⟩|⟨ne,q⟩
   ·cases z
   ·exact⟨⟨j,e,q,M⟩,λz=>by subst z;exact ne (s.inj i j _ _ _ hd q h1 M)⟩
  have c:bc (dU N (own σ ρ)) (dU N (own σ (ρ.set i (some (d,false))))):=eX λb u e q=>⟨e,λz=>q (o b z).1⟩;have T:¬own σ (ρ.set i (some (d,false))) a:=λz=>(o a z).2 rfl;refine⟨s.bh,s.tb,s.ext,by rw[length_set];exact s.len,λj e q=>?_,λj e q=>?_,λj k b e f q G U z2=>?_⟩
  ·rcases get q with⟨rfl,rfl,_⟩|⟨_,q⟩
   ·exact⟨_,h1,(h4.mono c).is (by rw[cW T];exact h2)⟩
   ·obtain⟨v,k1,k2⟩:=s.sh j e q;exact⟨v,k1,k2.mono c⟩
  ·rcases get q with⟨_,_,z⟩|⟨_,q⟩
   ·cases z
   ·obtain⟨a',o',k1,k2,k3,k4⟩:=s.ow j e q;exact⟨a',o',k1,k2,k3,k4.mono c⟩
  ·rcases get q with⟨_,_,z⟩|⟨_,q⟩
   ·cases z
   ·rcases get G with⟨_,_,z⟩|⟨_,G⟩
    ·cases z
    ·exact s.inj j k b e f q G U z2
 ·exact s
@[simp] noncomputable def K4 (is:LN)(g:FS):FS:=λρ=>g (is.foldl unown1 ρ)
theorem eM.unowns {K:Frag}{B0 H0 N H:Hp}{σ:St}:∀(is:LN){ρ:Env},eM K B0 H0 N H σ ρ->eM K B0 H0 N H σ (is.foldl DL.unown1 ρ)
 |[],_,s=>s
 |i::is,_,s=>eM.unowns is (s.unown1 i)
def Mi {K:Frag}{is:LN}{g:FS}{E:Ends}{σ:St}{H:Hp}(q:oe K (K4 is g) E σ H):oe K g E σ H:=by
 obtain⟨B0,H0,ρ,r,⟨N,s⟩,e,p⟩:=q;exact⟨B0,H0,_,r,⟨N,s.unowns is⟩,e,p⟩
def Ca {X:Cx}{st:Stmt}{g:FS}(is:LN)(h:JS X st g):JS X st (K4 is g):=PS.to h λ_ _ _ q=>Mi q
@[simp] noncomputable def K5:FS:=λρ=>some (.ct ρ)
@[simp] noncomputable def AS:FS:=λ_=>none
section
variable {X:Cx}{pos:Pos}
def IH:JS X (.Continue pos) K5:=PS.to yq λE σ H q=>by
 obtain⟨B0,H0,ρ,r,s,e,p⟩:=q;cases e
 exact p σ H s
def yN {st:Stmt}:JS X st AS:=λah s σ H E I q=>by
 obtain⟨B0,H0,ρ,r,_,e,_⟩:=q;cases e
end
inductive CRows (K:Frag)(P:Params):List DictEntry->List (Str×D)->Prop where
 |nil:CRows K P [] []
 |tup {x:Str}{t:Tok}{h:Int}{a:Addr}{its:Array Value}{n:Nat}{lX:Array (Option Value)}{ds:List D}{r:List DictEntry}{aO:List (Str×D)}(hh:h=PyData.keyHash P x)
   (l:K.lookup a=some ⟨.type "tuple",none,.seq its n,lX⟩) (f:(decide (its.size<=1000) && jO its.toList ds)=true) (tl:CRows K P r aO):CRows K P (⟨h,.str x t,.ref a⟩::r) ((x,.tup ds)::aO)
 |flat {x:Str}{t:Tok}{h:Int}{u:Value}{d:D}{r:List DictEntry}{aO:List (Str×D)}(hh:h=PyData.keyHash P x) (f:xu u d=true) (tl:CRows K P r aO):CRows K P (⟨h,.str x t,u⟩::r) ((x,d)::aO)
theorem CRows.lit {K:Frag}{P:Params}:∀ {es:List DictEntry}{aO:List (Str×D)},CRows K P es aO->PySem.W.KeysLit P es
 |_,_,.nil=>trivial
 |_,_,.tup hh _ _ tl=>⟨⟨_,_,rfl,hh⟩,tl.lit⟩
 |_,_,.flat hh _ tl=>⟨⟨_,_,rfl,hh⟩,tl.lit⟩
theorem CRows.find {K:Frag}{P:Params}(y:Str):∀ {es:List DictEntry}{aO:List (Str×D)},CRows K P es aO->match aO.lookup y with
  |none=>es.find? (λe=>Value.isStrOf y e.key)=none
  |some d=>∃e v,es.find? (λe=>Value.isStrOf y e.key)=some e/\bd v e.val/\∀B,Is K B v d
 |_,_,.nil=>rfl
 |_,_,.tup (x:=x) (t:=t) (a:=a) (ds:=ds) hh l f tl=>by
  by_cases e:y=x
  ·subst e;rw[lookup_cons_self];rw[vC]at f;obtain⟨vs,r,i⟩:=jP (K:=K) f.2;exact⟨_,.ref a,List.find?_cons_of_pos (by simp[Value.isStrOf]),rfl,λB=>.tup (.inr ⟨_,_,_,l,rfl,rfl,le_of_lt (lt_of_le_of_lt (RV f.1) (by decide)),r⟩) (i B)⟩
  ·have G:=tl.find y;rw[lookup_cons,beq_eq_false_iff_ne.mpr e];have M:Value.isStrOf y (Value.str x t)=false:=by
    rw[Bool.eq_false_iff];intro z;obtain⟨t',q⟩:=Value.isStrOf_shape z;injection q with O;exact e O.symm
   simp only[find?_cons,M];exact G
 |_,_,.flat (x:=x) (t:=t) (u:=u) (d:=d) hh f tl=>by
  by_cases e:y=x
  ·subst e;rw[lookup_cons_self];obtain⟨v,U,_⟩:=ls (K:=K) (B:=λ_=>none) f;refine⟨_,v,List.find?_cons_of_pos (by simp[Value.isStrOf]),U,λB=>?_⟩;obtain⟨v',T,i'⟩:=ls (K:=K) (B:=B) f;have:v'=v:=by have z1:=U.abs;rw[T.abs]at z1;exact vK z1
   subst this;exact i'
  ·have G:=tl.find y;rw[lookup_cons,beq_eq_false_iff_ne.mpr e];have M:Value.isStrOf y (Value.str x t)=false:=by
    rw[Bool.eq_false_iff];intro z;obtain⟨t',q⟩:=Value.isStrOf_shape z;injection q with O;exact e O.symm
   simp only[find?_cons,M];exact G
def mS (K:Frag)(P:Params)(a:Addr)(aO:List (Str×D)):Prop:=∃es n,K.lookup a=some ⟨.type "dict",none,.dict es n,#[]⟩/\CRows K P es.toList aO/\(a == sysModules)=false
def const_dict {K:Frag}{P:Params}{y:Str}{a:Addr}{es:Array DictEntry}{n:Nat}{aO:List (Str×D)}(e:nsIn K mainGlobals y=some (some (.ref a)))(l:K.lookup a=some ⟨.type "dict",none,.dict es n,#[]⟩)(r:CRows K P es.toList aO)(s:(a == sysModules)=false):
  ∃a,nsIn K mainGlobals y=some (some (.ref a))/\mS K P a aO:=⟨a,e,es,n,l,r,s⟩
section
variable {X:Cx}{a b e:Expr}{pos:Pos}{x:Str}{p:Pos}
def mS.map {ah:AO}{σ:St}{H:Hp}{s:Shared}{d:Addr}{aO:List (Str×D)}(I:Inv X ah σ H s)(h:mS X.K X.w.params d aO):∃f:SV,s.heap.MapOf (strKind X.prog X.w) d f/\(d == sysModules)=false /\
  ∀y,match aO.lookup y with|none=>f y=none|some dd=>∃u v,f y=some u/\bd v u/\∀B,Is X.K B v dd:=by
 obtain⟨es,n,l,r,M⟩:=h;refine⟨_,PySem.W.mapOf_K I.kIn l r.lit,M,λy=>?_⟩;have:=r.find y;have G:findBy Value.isStrOf es y=(es.toList.find? λe=>Value.isStrOf y e.key).map (·.val):=by
  unfold findBy;obtain⟨es⟩:=es;rw[List.find?_toArray]
 cases hl:aO.lookup y with
 |none=>rw[hl]at this;dsimp only at this ⊢;rw[G,this];rfl
 |some dd=>
  rw[hl]at this;obtain⟨en,v,O,e2,T⟩:=this;exact⟨en.val,v,by rw[G,O];rfl,e2,T⟩
@[simp] noncomputable def mi (aO:List (Str×D)):D->OB
 |.str y=>(aO.lookup y).map λd=>(d,false)
 |_=>none
@[simp] noncomputable def qO (aO:List (Str×D)):D->OB
 |.str y=>some (.bl (!(aO.lookup y).isSome),false)
 |_=>none
def xw (h:∃d,X.mg x=some (.ref d)/\mS X.K X.w.params d aO)(hb:JE X b f)(hg:Gl X x:=by rfl)(hd:(x == ("__debug__" : Str))=false:=by decide)(hs:qd b:=by intro _ _;rfl):JE X (.Subscript (.Name x p) b pos) (f1 (mi aO) f):=by
 obtain⟨d,hm,cd⟩:=h;have ix:EM X (λx y H Q=>∃z dd,x=.ref d/\y=.str z/\aO.lookup z=some dd/\∀v,(∀B,Is X.K B v dd)->Q v H):=by
  intro M O ah s σ H x y v u Q I rx ry q hs;obtain⟨z,dd,rfl,rfl,el,q⟩:=q;cases rx
  obtain⟨t,rfl⟩:=ry;obtain⟨f,hM,sm,hf⟩:=cd.map I;have:=hf z;rw[el]at this;obtain⟨u,v,T,e2,e3⟩:=this;exact tail_any hM.typeIs slot_dict_getitem.lookup (wpAny_getItem_of (strKind_is X.prog X.w z t) hM T ⟨v,H,I.tok _,e2,q v e3⟩) hs
 refine PE.to (EN ix (qc (v:=.ref d) hg hm rfl hd) hb hs) λσ H Q q=>?_;obtain⟨B,ρ,d',bb,sB,r,G,q⟩:=q;obtain⟨U,ex,G⟩:=oX G;refine⟨B,ρ,U.1,U.2,sB,r,ex,λv H1 N1 xt i1 _=>?_⟩;obtain⟨xd,xb⟩:=U;cases i1<;>try (simp[mi]at G;done)
 rename_i z _;simp only[mi]at G;obtain⟨dd,T,e2⟩:=oY G;cases e2
 exact⟨z,_,rfl,rfl,T,λv hv=>(q.into xt).one xt.nh (hv _)⟩
@[simp] noncomputable def Qu:LD->OB
 |[.lst ds]=>some (.lst ds,true)
 |[.tup ds]=>some (.lst ds,true)
 |_=>none
@[simp] noncomputable def io:LD->OB
 |[.lst ds]=>some (.tup ds,false)
 |[.tup ds]=>some (.tup ds,false)
 |_=>none
def II:cA X (.type "tuple") (E1 X.K io):=by
 refine cA.to ub λxs H Q q=>?_;obtain⟨B,ds,d,bb,M,i,G,q⟩:=q;cases i with
 |nil=>simp[io]at G
 |cons i1 i2=>
  cases i2 with
  |cons _ _=>cases i1<;>simp[io]at G
  |nil=>
   cases i1<;>try (simp[io]at G;done)
   ·rename_i T vs es h hl;simp only[io]at G;cases G
    exact⟨_,_,rfl,.inr ⟨bC M h,q.one M (.tup h hl)⟩⟩
   ·rename_i T vs es h hl;simp only[io]at G;cases G
    refine⟨_,_,rfl,.inl ⟨M.seq h,λl hp=>?_⟩⟩;have O:=Ext.laid (o:=.tup vs) M hp;exact q _ _ _ O (.tup (jt.of aC) (hl.mono O.bn)) (by simp)
end
section
variable {X:Cx}{a b e:Expr}{pos:Pos}{x:Str}{p:Pos}
@[simp] def UU (i:Nat)(G M:FE):FS:=λρ=>match ρ[i]? with
 |some (some (.lst ds,true))=>(M ρ).bind λv=>(G ρ).bind λk=>match k.1 with
  |.int j=>(Hw ds.length j).bind λn=>if b8 v.1=true then some (.nx (ρ.set i (some (.lst (ds.set n v.1),true))))else none
  |_=>none
 |_=>none
@[simp] def F7 (i:Nat)(f:FE):FS:=λρ=>match ρ[i]? with
 |some (some (.lst ds,true))=>(f ρ).bind λx=>match x.1 with
  |.lst es=>if x.2=true/\bB es=true/\ds.length+es.length<=sizeLine then some (.nx (ρ.set i (some (.lst (ds++es),true))))else none
  |_=>none
 |_=>none
def Mj (he:JE X e f)(hN:PE X (.Name y py) (pP i):=by exact pv)
  (M:attributeBase (.Name y py) "extend" X.env (eval (.Name y py) X.env)=eval (.Name y py) X.env:=by rfl)
  (T:((backTo cF (starEach [e] X.env)).all (λx=>!x.1) && (backToKw cF (keywordEach [] X.env)).all (λx=>x.1.isSome)
   && decide ([e].length+([]:List Keyword).length+(if([]:List Keyword).isEmpty then 0 else 1)<30))=true:=by rfl)
  (O:(dJ.endLine == cF.line)=true:=by rfl) (hs:starEach [e] X.env=[(false,eval e X.env)]:=by rfl) (U:swapsWith (.Call (.Attribute (.Name y py) "extend" dJ) [e] [] cF) none pos.line X.env=pure false:=by rfl):
  JS X (.Expr (.Call (.Attribute (.Name y py) "extend" dJ) [e] [] cF) pos) (F7 i f):=by
 refine PS.to (B9 (ES PySem.F.plainAttrs_list PySem.F.slot_list_extend PySem.F.type_list_extend Du hN (gB he jf hs) M T O hs rfl) U) λE σ H q=>?_;obtain⟨B0,H0,ρ,r,⟨N,s⟩,G,p⟩:=q;unfold F7 at G;split at G
 ·rename_i ds ei;obtain⟨v,ev,G⟩:=oX G;obtain⟨vd,vb⟩:=v;cases vd with
  |lst es=>
   dsimp only at G;split at G
   ·rename_i hc;cases G
    obtain⟨l,vs,Wp,z,h1,h2,h3,h4⟩:=s.owL i _ ei;cases z
    refine⟨_,h1,.inl ⟨rfl,vs,iQ.of (s.ext.nh _ _ h2)⟩,N,ρ,_,_,s.ext.nh,s.rep,ev,λv1 H1 N1 x1 i1 f1=>?_⟩;obtain⟨l2,ws,Sd,rfl,z,g1,g2,g3⟩:=f1 hc.1;cases z
    have s1:=s.grow x1;obtain⟨l',Se,Wp,z,k1,k2,_,k4⟩:=s1.owL i _ ei;cases z
    rw[h1]at k1;cases k1;exact⟨l,l2,Se,ws,rfl,rfl,s1.ext.nh _ _ k2,x1.nh _ _ g2,by rw[k4.length,g3.length];exact hc.2.2,p σ _ ⟨_,s1.write ei h1 (k4.append (s1.flats g3 hc.2.1))⟩⟩
   ·cases G
  |_=>cases G
 ·cases G
end
open AutoSeq1 (wpAny_loadPart')
set_option maxRecDepth 100000
noncomputable def Tk (k:Bool):String:=if k=true then "list" else "tuple"
def yO (k:Bool)(l:Addr)(items:AV)(n:Nat)(G:Option Addr)(sl:Array (Option Value)):
  Meets (Builtin.«enumerate.__new__» ⟨[.type "enumerate",.ref l],[]⟩) (λ_ R s=>s.heap.get? l=some { cls:=.type (Tk k),dict:=G,data:=.seq items n,slots:=sl } /\
   R (.ok (.ret (.ref (s.heap.push (HA k l)).objs.size))) { s with heap:=(s.heap.push (HA k l)).push { cls:=.type "enumerate",data:=.fields #[.none,.bool false,.ref s.heap.objs.size,rawInt 0,.none,.none] } }) :=
 .of_wp λprog w A R s hs=>by
  obtain⟨hp,g,d,tk,os⟩:=s;obtain⟨hl,hs⟩:=hs;have O:=sub_enumerate;have M:kH k (Shared.heap ⟨hp,g,d,tk,os⟩) l items:=by cases k<;>exact⟨_,hl,rfl,n,rfl⟩
  wp_walk using wpAny_loadPart' hl;refine wpAny_stack_any λst=>wY ?_;split
  ·rename_i c _ _ _ _ _;cases (c == Value.type "enumerate")
   ·wp_walk using wpAny_loadPart' hl,mR M;exact⟨_,rfl,hs⟩
   ·wp_walk using wpAny_loadPart' hl,mR M;exact⟨_,rfl,hs⟩
  ·wp_walk using wpAny_loadPart' hl,mR M;exact⟨_,rfl,hs⟩
section
variable {prog:Program}{w:World}{A:Around}{E:QV}{s:Shared}
def F8 (O:kH k s.heap l items)
  (q:∀h',IsEnum h' (s.heap.objs.size+1) s.heap.objs.size 0 .none->lu k h' s.heap.objs.size l 0->(∀b o,s.heap.get? b=some o->h'.get? b=some o)->Q (.ref (s.heap.objs.size+1)) { s with heap:=h' }):
  wpAny (model prog w) A (call (.type "enumerate") [.ref l]) Q E s:=by
 have hh:∃(G:Option Addr)(sl:Array (Option Value))(n:Nat),s.heap.get? l=some { cls:=.type (Tk k),dict:=G,data:=.seq items n,slots:=sl }:=by
  cases k<;>(obtain⟨⟨c,G,dt,sl⟩,hl,hc,n,hd⟩:=O;dsimp only at hc hd;subst hc;subst hd;exact⟨G,sl,n,hl⟩)
 obtain⟨G,sl,n,hl⟩:=hh;refine callType_new PySem.F.called_enumerate (by decide) (PySem.F.typeCall_enumerate_1 _) (PySem.F.newCall_enumerate_1 _) (λobj=>PySem.F.args_object_init_2 obj _) PySem.F.entry_enumerate_new (yO k l items n G sl) ⟨hl,?_⟩;have n1:(s.heap.push (HA k l)).objs.size=s.heap.objs.size+1:=Heap.size_push ..;have M:((s.heap.push (HA k l)).push { cls:=.type "enumerate",data:=.fields #[.none,.bool false,.ref s.heap.objs.size,rawInt 0,.none,.none] }).get? (s.heap.push (HA k l)).objs.size=some _:=vY _ rfl;have g1:((s.heap.push (HA k l)).push { cls:=.type "enumerate",data:=.fields #[.none,.bool false,.ref s.heap.objs.size,rawInt 0,.none,.none] }).get? s.heap.objs.size=some _:=vZ _ (vY _ (by cases k<;>rfl))
 rw[n1]at M;show _/\_;rw[n1];refine⟨⟨_,M,rfl⟩,q _ M ?_ λb o e=>vZ _ (vZ _ e)⟩;cases k<;>exact⟨_,g1,rfl,rfl⟩
def Mk (U:A.handled=none)(it l:Addr)(G:l≠it)(items:AV):Draws prog w A it [it,l] items.size (λi v=>items[i]? = some v) (λi h=>lu k h it l i/\kH k h l items) where
 live:=λi h st=>let ⟨o,e,_⟩:=st.1.ob;⟨o,e⟩
 frame:=λi h h' st O=>⟨st.1.upon λo e=>O it (by simp) o e,st.2.upon λo e=>O l (by simp) o e⟩
 item:=λi s Q E hi st q=>gd st.1 st.2 (v:=items[i]) (by simp[hi]) λh' M T=>q _ h' s.toks (by simp[hi]) ⟨M,st.2.upon λo e=>T.extBut _ _ G e⟩ T
 done:=λs Q E st q=>j5 U st.1 st.2 (by simp) q
def Ml (M:A.handled=none)(it l:Addr)(items:AV)(n:Nat)(hn:items[n]? = none):Draws prog w A it [it,l] n (λ_ _=>True) (λi h=>(lu k h it l i/\kH k h l items)/\i=n) where
 live:=λi h st=>let ⟨o,e,_⟩:=st.1.1.ob;⟨o,e⟩
 frame:=λi h h' st G=>⟨⟨st.1.1.upon λo e=>G it (by simp) o e,st.1.2.upon λo e=>G l (by simp) o e⟩,st.2⟩
 item:=λi s Q E hi st q=>absurd st.2 (vS hi)
 done:=λs Q E st q=>j5 M st.1.1 st.1.2 hn q
end
noncomputable def Rq (K:Frag)(k:Bool)(a:Addr):It :=
  ⟨λi H=>∃xs x,mh k K H a xs/\xs[i]? = some x,
   λi H v H'=>∃T x,v=.ref T/\H T=none/\H'=upd H T (.tup [.int i,x])/\∀xs,mh k K H a xs->xs[i]? = some x,
   λi H=>∃xs,mh k K H a xs/\xs.length<=i⟩
def D9 {P:Program}{w:World}{K:Frag}{es:QD}{kt:Nat}{pt:Pos}{k:Bool}{a e it:Addr}(O:e≠it)(Wq:a≠e)(Wr:a≠it):
  Turn P w K (.Tuple es kt pt) (Rq K k a) [e,it] e (λi h=>(∃G,IsEnum h e it i G)/\lu k h it a i) where
 mem:=by simp
 obj:=λi h st b hb=>by
  obtain⟨⟨G,he⟩,M⟩:=st;simp at hb;rcases hb with rfl|rfl
  ·exact⟨_,he,λv z=>by cases z⟩
  ·exact M.ob
 keep:=λi h h' st kk=>by
  obtain⟨⟨G,he⟩,M⟩:=st;exact⟨⟨G,kk e (by simp) _ he⟩,M.upon λo q=>kk it (by simp) o q⟩
 item:=by
  intro X hP hw hK hc i ah s σ H E I hf st hg;subst hP hw hK;obtain⟨⟨G,he⟩,M⟩:=st;obtain⟨xs,x,q1,hx⟩:=hg;obtain⟨its,r1,p1,z1⟩:=q1.vals I;obtain⟨u,hu,ru⟩:=r1.get hx;have fresh:H s.heap.objs.size=none:=I.hok.fresh (vT _);have Ws:i<its.toArray.size:=by rw[vH];exact(vV hu).1
  have U:e≠s.heap.objs.size:=vS (vX he);have Wt:it≠s.heap.objs.size:=by obtain⟨o,q,_⟩:=M.ob;exact vS (vX q)
  refine wpAny_pyNext_enum_itemD (Mk (A:=X.A.in1) (I.ok.hd hc) it a Wr its.toArray) he ⟨M,p1⟩ Ws O (by simp[O,Wq.symm]) λv h' tk hv ho MY hT hsz hk=>?_;have ev:v=u:=by
   have Ue:its[i]? = some v:=by simpa using hv
   rw[hu]at Ue;exact(vK Ue).symm
  subst ev;refine⟨_,rfl,wpAny_letOwnedTupleGo_enum (s:={ s with heap:=h',toks:=tk+1 }) ho λh2 NG s2=>?_⟩;have T:Heap.SameBut e h' h2:=s2;have kk:∀b o,b∉[e,it]->s.heap.get? b=some o->h2.get? b=some o:=λb o hb q=>T.extBut _ _ (λz=>hb (by simp[z])) (hk b o (λz=>hb (by simp[z])) (λz=>hb (by simp[z])) q);have new:bN X.prog X.w (upd H s.heap.objs.size (.tup [.int i,x])) h2 s.heap.objs.size (.tup [.int i,x]):=⟨by show 2<=sizeLine;decide,[.int i tk,v],.cons ⟨tk,rfl⟩ (.cons ru .nil),⟨_,T.extBut _ _ U.symm hT,rfl,_,rfl⟩⟩;refine⟨.ref s.heap.objs.size,upd H s.heap.objs.size (.tup [.int i,x]),BZ (s:=s) (t':=tk+1) I hf kk (vT _) new,rfl,⟨_,x,rfl,fresh,rfl,λzs hq=>by rw[mh.inj I hq q1];exact hx⟩,?_,λb hb=>?_⟩
  ·exact⟨⟨_,by have:=NG;rw[show((i:Int)+1)=((i+1:Nat):Int) by omega]at this;exact this⟩,MY.1.upon λo q=>T.extBut _ _ O.symm q⟩
  ·have E6:b≠s.heap.objs.size:=by
    simp at hb;rcases hb with rfl|rfl
    ·exact U
    ·exact Wt
   rw[aG E6];exact(hf b hb).1
 done:=by
  intro X hP hw hK hc i ah s σ H E I hf st hg;subst hP hw hK;obtain⟨⟨G,he⟩,M⟩:=st;obtain⟨xs,q1,hl⟩:=hg;obtain⟨its,r1,p1,z1⟩:=q1.vals I;have n1:=r1.length;refine wpAny_pyNext_enum_endD (Ml (A:=X.A.in1) (I.ok.hd hc) it a its.toArray i (by simp;omega)) he ⟨⟨M,p1⟩,rfl⟩ λh' hk=>⟨rfl,?_⟩;exact jQ (t':=s.toks) I hf λb o hb q=>hk b o (λz=>hb (by simp[z])) q
 self:=λ_ _ _ _ _ st h=>let ⟨⟨_,he⟩,_⟩:=st;wpAny_pyIter_enum he h
section
variable {X:Cx}{a b e:Expr}{pos:Pos}{p:Pos}
def yP:bootBuiltins "enumerate" = some (.type "enumerate"):=by decide +kernel
noncomputable def uM (ds:LD):LD:=ds.mapIdx λi d=>.tup [.int i,d]
@[simp] def F9 (fa:FE):FA:=λρ=>(fa ρ).bind λx=>(fY x.1).map uM
def IJ {K:Frag}{N:Hp}{k:Bool}{l:Addr}{vs:LV}{ds:LD}(h1:mh k K N l vs)(i1:IsL K N vs ds):om K (Rq K k l) N (uM ds):=by
 intro i H' G;have n1:=i1.length;refine⟨λd ed=>?_,λhl=>⟨vs,h1.same G,?_⟩⟩
 ·unfold uM at ed;rw[List.getElem?_mapIdx]at ed;obtain⟨x,e1,rfl⟩:=oY ed;obtain⟨v,M,iv⟩:=i1.get e1;refine⟨⟨vs,v,h1.same G,M⟩,λr H2 hy=>?_⟩;obtain⟨T,v',rfl,hT,rfl,f1⟩:=hy;have O:=f1 vs (h1.same G);rw[M]at O;cases O;have U:=Ext.laid (o:=.tup [.int i,v]) G hT;exact⟨_,U,.tup (jt.of aC) (.cons (.int _) (.cons (iv.mono U.bn) .nil))⟩
 ·unfold uM at hl;rw[List.length_mapIdx]at hl;omega
def IK {es:QD}{kt:Nat}{pt:Pos}{fa:FE}(hm:X.mg "enumerate" = none)(ha:JE X a fa)(hg:Gl X "enumerate":=by rfl)(hs:starEach [a] X.env=[(false,eval a X.env)]:=by rfl):
  JI X (.Tuple es kt pt) (.Call (.Name "enumerate" p) [a] [] pos) (F9 fa):=by
 intro ah s σ H R I q;refine Call_ (je I hg hm yP (PyProof.Rows.callWith_type1 (c9 (ai ha ao hs pos ah s σ H (λvs G=>∃(k:Bool)(l:Addr)(us:LV),vs=[.ref l]/\mh k X.K G l us/\R (Rq X.K k l) G) I ?_) λus s1 ⟨vs,G,T,r1,q1⟩=>?_) hs rfl))
 ·obtain⟨B,ρ,ds,sB,r,M,q⟩:=q;obtain⟨x1,ex,M⟩:=oX M;obtain⟨xs,U,M⟩:=oY M;subst M;refine⟨B,ρ,[x1.1],sB,r,by simp[ag,aj,ex],λvs G N1 xt i1=>?_⟩;cases i1 with
  |cons j1 j2=>
   cases j2
   obtain⟨k1,l1,us,rfl,s1,m1⟩:=yM j1 U;exact⟨k1,l1,us,rfl,s1.same xt.nh,q _ G N1 xt (IJ s1 m1)⟩
 ·obtain⟨k,l,ws,rfl,h1,q⟩:=q1;obtain⟨u1,rfl,PP⟩:=r1.one;cases PP
  obtain⟨its,v1,p1,z1⟩:=h1.vals T;have E3:=p1.lt;refine F8 p1 λh' c1 c2 ck=>?_;refine wpAny_pyIter_enum c1 ⟨s1.heap.objs.size+1,[s1.heap.objs.size+1,s1.heap.objs.size],_,_,G,rfl,T.kept (t':=s1.toks) ck,
   D9 (Nat.succ_ne_self _) (vS (lt_succ_of_lt E3)) (vS E3),⟨⟨_,c1⟩,c2⟩,λb hb=>?_,q⟩
  have O:s1.heap.objs.size<=b:=by
   simp at hb;rcases hb with rfl|rfl
   ·exact le_succ _
   ·exact vT _
  exact T.fpOk O (T.hok.fresh O)
end
end DL
namespace DL
open PySem PySem.Spec PyProof.Rows
def DA (t:SetTable)(es:Array (Int×Value))(n:Nat):(relayAll t es n).2.1.led=t.led:=by
 unfold relayAll;split
 ·rename_i t' G h;unfold SetTable.relaid SetTable.laid at h;obtain⟨ow,_,h⟩:=oX h;cases h
  dsimp only;split<;>rfl
 ·rfl
def yQ (t:SetTable)(es:Array (Int×Value))(n:Nat)(hp:t.plain=false):(relayAll t es n).2.1.plain=false:=by
 unfold relayAll;split
 ·rename_i t' G h;unfold SetTable.relaid SetTable.laid at h;obtain⟨ow,_,h⟩:=oX h;cases h
  dsimp only;split
  ·exact hp
  ·rfl
 ·rfl
def IL (t:SetTable)(es:Array (Int×Value))(h:Int)(x:Value):(layNew t es h x).2.1.led=t.led:=by
 unfold layNew;split
 ·dsimp only[SetTable.put,SetTable.orStandIn];repeat' (first|rfl|split)
 ·rfl
structure TabT (w:World)(es:Array (Int×Value))(t:SetTable):Prop where
 fits:t.fits es.size=true
 led:t.led = !w.params.followText "set-order"
 plain:es.size≠0->t.plain=false
def iN (prog:Program)(w:World)(h:Heap)(a:Addr)(G:LS):Prop :=
 ∃o es M t,h.get? a=some o/\o.ExactSet/\o.data=.set es M t/\ElemsOf (PySem.strKind prog w) es.toList/\(es.toList.map (λe=>strOf e.2)).Perm G/\G.Nodup/\G.length<scanBound/\TabT w es t
noncomputable def iO (G:LS)(x:Str):LS:=if x∈G then G else G++[x]
def FC (G:LS)(x:Str):(iO G x).length<=G.length+1:=by unfold iO;split<;>simp
def yR (h:Value.isStrOf k v=true):strOf v=k:=by obtain⟨t,rfl⟩:=Value.isStrOf_shape h;rfl
section
variable {prog:Program}{w:World}{A:Around}{E:QV}{s:Shared}
def uO {es:Array (Int×Value)}{O:LS}(M:ElemsOf (PySem.strKind prog w) es.toList)(hp:(es.toList.map (λe=>strOf e.2)).Perm O)(k:Str):k∈O ↔ ∃e∈es.toList,(PySem.strKind prog w).is k e.2=true:=by
 rw[←hp.mem_iff,List.mem_map];constructor
 ·rintro⟨e,he,rfl⟩;obtain⟨⟨k',hk,_⟩,_⟩:=M e he;have G:Value.isStrOf k' e.2=true:=hk;refine⟨e,he,?_⟩;show Value.isStrOf (strOf e.2) e.2=true;rw[yR G];exact G
 ·rintro⟨e,he,hk⟩;exact⟨e,he,yR hk⟩
def vc {h:Heap}{a:Addr}{o:Obj}{es:Array (Int×Value)}{M:Nat}{t:SetTable}(O:h.get? a=some o)(hd:o.data=.set es M t)(G:Array (Int×Value))(t':SetTable):
  (h.update a (Obj.putSet G t')).get? a=some { o with data:=.set G (M+1) t' }:=by
 have:=Heap.get?_update_self (Obj.putSet G t') O (by rw[putSet_of G t' hd];rfl);rw[putSet_of G t' hd]at this;exact this
def yS {g:Bool->Sem Unit}(hg:∀(b:Bool)(U:Shared)(Q':Unit->Shared->Prop),Q' () U->wpAny (model prog w) A (g b) Q' E U)
  {a:Addr}{o:Obj}{es:Array (Int×Value)}{ep:Nat}{t:SetTable}(ho:s.heap.get? a=some o) (Kj:o.ExactSet) (hd:o.data=.set es ep t)
  {G:Array (Int×Value)}{M:SetTable}{ts:LS}(Hq:ElemsOf (PySem.strKind prog w) G.toList) (NH:(G.toList.map (λe=>strOf e.2)).Perm ts) (nd:ts.Nodup)
  (hb1:ts.length<scanBound) (Wu:M.fits G.size=true) (NF:M.led = !w.params.followText "set-order") (Kk:M.plain=false) {O:Bool}{R:Option Bool->Shared->Prop}
  (h:∀h',Heap.SameBut a s.heap h'->iN prog w h' a ts->R (some true) { s with heap:=h' }):
  wpAny (model prog w) A (do
    storeSet a G M
    if(!O && M.tooFull)=true then do
      g (relayAll M G (SetTable.grown G.size)).2.2
      storeSet a (relayAll M G (SetTable.grown G.size)).1 (relayAll M G (SetTable.grown G.size)).2.1
      pure (some true)
     else pure (some true)) R E s:=by
 have Uf:G.size=ts.length:=by rw[←NH.length_eq,vI,vG]
 refine wX (wpAny_storeSet_of ho hd ?_ (fits_of_scanBound (by rw[Uf];exact hb1)));have NI:=vc ho hd G M;have PQ:=vW s.heap a (Obj.putSet G M);split
 ·have hp:=relayAll_perm M G (SetTable.grown G.size);have Sf:=relayAll_fits M G (SetTable.grown G.size);have Kl:=DA M G (SetTable.grown G.size);have Sg:=yQ M G (SetTable.grown G.size) Kk;generalize hRl:relayAll M G (SetTable.grown G.size)=Rl at hp Sf Kl Sg ⊢;obtain⟨T,t3,Ug⟩:=Rl;dsimp only at hp Sf Kl Sg ⊢;have Sh:ElemsOf (PySem.strKind prog w) T.toList:=Hq.perm hp;have hsz:T.size=G.size:=by rw[←vG,hp.length_eq,vG]
  refine wX (hg _ _ _ ?_);refine wX (wpAny_storeSet_of NI rfl ?_ (fits_of_scanBound (by rw[hsz,Uf];exact hb1)));have Wv:=vc NI rfl T t3;exact wY (h _ (PQ.trans (vW _ a _)) ⟨_,T,_,t3,Wv,Kj,rfl,Sh,(hp.map _).trans NH,nd,hb1,Sf,Kl.trans NF,λ_=>Sg⟩)
 ·exact wY (h _ PQ ⟨_,G,_,M,NI,Kj,rfl,Hq,NH,nd,hb1,Wu,NF,λ_=>Kk⟩)
def AT {a:Addr}{U:LS}{k:Str}{tk:Tok}{Q:Bool->Shared->Prop}(hS:iN prog w s.heap a U)(PR:U.length+1<scanBound)
  (h:∀b h',Heap.SameBut a s.heap h'->iN prog w h' a (iO U k)->Q b { s with heap:=h' }):
  wpAny (model prog w) A (setAddHashed a (.str k tk) ((PySem.strKind prog w).hash k)) Q E s:=by
 have hS0:=hS;obtain⟨o,es,ep,t,ho,Kj,hd,KQ,G,nd,hb,hf,Km,Kk⟩:=hS;have PU:(PySem.strKind prog w).is k (.str k tk)=true:=strKind_is prog w k tk;have sz:es.size=U.length:=by rw[←G.length_eq,vI,vG]
 unfold setAddHashed setAddHashedIn;refine wpAny_holding (wX (wpAny_setState_of ho hd hf ?_));dsimp only;rw[byScan_of (x:=.str k tk) rfl (by rw[sz];exact hb) KQ];simp only[↓reduceIte];unfold setAddByScan;refine wX ?_;refine wX (wpAny_rule ?_);refine wX (wpAny_setScan_of PU ho hd hf KQ ?_);cases hr:List.findIdx? (λe=>(PySem.strKind prog w).is k e.2) es.toList with
 |some j=>
  dsimp only;obtain⟨hj,Ww,_⟩:=List.findIdx?_eq_some_iff_getElem.mp hr;have hm:k∈U:=(uO KQ G k).mpr ⟨es.toList[j],getElem_mem hj,Ww⟩;refine wY (wY ?_);have e:iO U k=U:=by unfold iO;rw[if_pos hm]
  exact h false s.heap (Heap.SameBut.refl a s.heap) (by rw[e];exact hS0)
 |none=>
  dsimp only;have hm:k∉U:=λz=>by
   obtain⟨e,he,hp⟩:=(uO KQ G k).mp z;have:=List.findIdx?_eq_none_iff.mp hr e he;rw[hp]at this;exact Bool.noConfusion this
  have ea:iO U k=U++[k]:=by unfold iO;rw[if_neg hm]
  have Wx:∀(b:Bool){T:Shared}{Q':Unit->Shared->Prop},Q' () T->wpAny (model prog w) A (match b with|true=>rule "set.scan.the-table-gave-way" | false=>pure ()) Q' E T :=
   λb T Q' hq=>by cases b<;>first|exact wY hq|exact wpAny_rule hq
  have M:=layNew_perm t es ((PySem.strKind prog w).hash k) (.str k tk);have O:=layNew_fits t es ((PySem.strKind prog w).hash k) (.str k tk);have KR:=IL t es ((PySem.strKind prog w).hash k) (.str k tk);generalize hL:layNew t es ((PySem.strKind prog w).hash k) (.str k tk)=L at M O KR ⊢;obtain⟨Uh,t1,PX,Si⟩:=L;dsimp only at M O KR ⊢;rw[toList_push]at M;have Hq:ElemsOf (PySem.strKind prog w) Uh.toList:=(KQ.push PU rfl).perm M;have NH:(Uh.toList.map (λe=>strOf e.2)).Perm (U++[k]):=(M.map _).trans (by rw[uW];exact G.append_right _);have Ui:(U++[k]).Nodup:=by
   rw[nodup_append];refine⟨nd,by simp,λx hx y hy=>?_⟩;rw[mem_singleton]at hy;subst hy;exact λz=>hm (z ▸ hx)
  have hb1:(U++[k]).length<scanBound:=by rw[uZ];exact PR
  refine wX (Wx _ ?_);have PY:∀h',Heap.SameBut a s.heap h'->iN prog w h' a (U++[k])->Q true { s with heap:=h' }:=λh' hsb Hr=>h true h' hsb (by rw[ea];exact Hr);split
  ·refine wX ?_;rw[hashByValue_scannable 8 (x:=.str k tk) rfl];refine wY ?_;refine yS ?_ ho Kj hd Hq NH Ui hb1 ?_ ?_ ?_ ?_
   ·intro b T Q' hq;cases b<;>first|exact wY hq|exact wpAny_rule hq
   ·exact SetTable.fits_plain_off O
   ·exact KR.trans Km
   ·rfl
   ·intro h' hsb Hr;dsimp only;exact wY (PY h' hsb Hr)
  ·rename_i Sj;refine wX (wY ?_);simp only[↓reduceIte];refine yS ?_ ho Kj hd Hq NH Ui hb1 O (KR.trans Km) (by simpa using Sj) ?_
   ·intro b T Q' hq;cases b<;>first|exact wY hq|exact wpAny_rule hq
   ·intro h' hsb Hr;dsimp only;exact wY (PY h' hsb Hr)
end
noncomputable def ge (ss:LS):LS:=ss.foldl iO []
def qP (h:ts.Nodup)(x:Str):(iO ts x).Nodup:=by
 unfold iO;split
 ·exact h
 ·rename_i hm;rw[nodup_append];refine⟨h,by simp,λy hy z hz=>?_⟩;rw[mem_singleton]at hz;subst hz;exact λe=>hm (e ▸ hy)
def qQ:y∈iO ts x↔y∈ts∨y=x:=by
 unfold iO;split
 ·rename_i hm;exact⟨.inl,λz=>z.elim id λe=>e ▸ hm⟩
 ·simp
def xx (ss:LS):∀G:LS,(ss.foldl iO G).length<=G.length+ss.length:=by
 induction ss with
 |nil=>intro G;simp
 |cons x r M=>intro G;rw[foldl_cons];have:=M (iO G x);have:=FC G x;simp only[vE];omega
def mT (ss:LS):(ge ss).length<=ss.length:=by have:=xx ss [];simpa [ge]using this
def DB (ss:LS)(x:Str):ge (ss++[x])=iO (ge ss) x:=by unfold ge;rw[foldl_append];rfl
theorem StrsAre.at:∀ {vs:LU}{ss:LS},StrsAre vs ss->∀(i:Nat)(v:Value),vs[i]? = some v->∃x t,v=.str x t/\ss[i]? = some x
 |_,_,.nil,i,v,h=>by simp at h
 |_,_,.cons x t G,0,v,h=>by simp at h;exact⟨x,t,h.symm,rfl⟩
 |_,_,.cons x t G,i+1,v,h=>by
  simp only[getElem?_cons_succ]at h;exact StrsAre.at G i v h
def iN.at (x:iN prog w h a ts)(k:∀o,h.get? a=some o->h'.get? a=some o):iN prog w h' a ts:=by
 obtain⟨o,es,G,t,M,r⟩:=x;exact⟨o,es,G,t,k o M,r⟩
section
variable {prog:Program}{w:World}{A:Around}{R:Result->Shared->Prop}{I:Addr}{fp wr:List Addr}{G:Array GenState->Array GenState->Prop}{n:Nat}{P:Nat->Value->Prop}{St:Nat->Shared->Prop}
def xy (W:WalksS prog w A.in1 I fp wr G n P St)(S:Addr)(T:S∉fp)(ss:LS)(hn:ss.length=n)
  (U:∀i v,P i v->∃x t,v=.str x t/\ss[i]? = some x) (hb:n+1<scanBound):
  ∀(k i:Nat)(s:Shared),n - i=k->i<=n->St i s->iN prog w s.heap S (ge (ss.take i)) ->
   (∀s',Moved (S::wr) G s s'->iN prog w s'.heap S (ge ss)->R (.ok (.ret .none)) s') ->
   codeAny (model prog w) A (.builtin "set.update.loop" ⟨[.ref S,.ref I],[]⟩) R s:=by
 have Uj:S∉wr:=λh=>T (W.sub _ h);have M:∀b∈wr,b∈S::wr:=λb hb=>mZ _ hb;intro k;induction k with
 |zero=>
  intro i s hk hi O hS hR;have Hs:i=n:=by omega
  subst Hs;refine codeAny_builtin PyProof.Rows.F.entry_set_update_loop ?_;rw[Around.under_plainId PyProof.Rows.F.plain_set_update_loop _];show wpAny _ A.in1 (pyNext (.ref I)>>=_) _ _ s;refine wX (W.done s _ _ O λs' hm=>?_);show wpAny _ A.in1 (ret Value.none) _ _ s';refine wY (hR s' (hm.mono M) ?_);rw[List.take_of_length_le (by omega)]at hS;exact hS.at λo e=>hm.heap S _ Uj e
 |succ k ih=>
  intro i s hk hi O hS hR;have yj:i<n:=by omega
  refine codeAny_builtin PyProof.Rows.F.entry_set_update_loop ?_;rw[Around.under_plainId PyProof.Rows.F.plain_set_update_loop _];show wpAny _ A.in1 (pyNext (.ref I)>>=_) _ _ s;refine wX (W.item i s _ _ yj O λv s' hP hst' hm=>?_);obtain⟨x,t,rfl,hx⟩:=U i v hP;have Hr:iN prog w s'.heap S (ge (ss.take i)):=hS.at λo e=>hm.heap S _ Uj e;show wpAny _ A.in1 (holding [Value.str x t] (setAdd S (.str x t))>>=_) _ _ s';refine wX (wpAny_holding ?_);unfold setAdd;refine wpAny_holding ?_;refine wX ((PySem.strKind prog w).pyHash (k:=x) (strKind_is prog w x t) ?_);have hl:(ge (ss.take i)).length+1<scanBound:=by have:=mT (ss.take i);rw[length_take]at this;omega
  refine AT (s:={ s' with toks:=s'.toks+1 }) Hr hl λb h' hsb KS=>?_;have QB:iN prog w h' S (ge (ss.take (i+1))):=by
   rw[take_add_one,hx,toList_some,DB];exact KS
  refine wY ⟨plainId_quiet PyProof.Rows.F.plain_set_update_loop _,ih (i+1) _ (by omega) yj (W.frame _ s' _ _ hst' (le_succ _) λb hb o e=>?_) QB λPZ hm'' hS''=>?_⟩
  ·rw[hsb.2 b (λh:b=S=>T (by rw[←h];exact hb))];exact e
  ·refine hR PZ (Moved.trans W.gtrans ((hm.mono M).then_heap (le_succ _) λb o hb e=>?_) hm'') hS'';rw[hsb.2 b (λh:b=S=>hb (by rw[h];exact mX))];exact e
end
section
variable {prog:Program}{w:World}{A:Around}{E:QV}{s:Shared}
noncomputable abbrev fw (w:World):Obj:={ cls:=.type "set",dict:=none,data:=.set #[] 0 (.fresh 0 0 (!w.params.followText "set-order")) }
def yT (a:Value) 
  (h:Q₁ (.ref s.heap.objs.size) { s with heap:=s.heap.push (fw w) }):
  codeAny (model prog w) A (.call (.builtin "set.__new__") ⟨[.type "set",a],[]⟩) (wants Q₁ E) s:=by
 refine codeAny_of_tree ?_;show wpAny _ A.in1 (do checkBuiltinCall "set.__new__" ⟨[.type "set",a],[]⟩;again (.builtin "set.__new__" ⟨[.type "set",a],[]⟩)) _ _ s;refine wX (wpAny_of_eq (PySem.F.newCall_set_1 a) (wY ⟨plainId_quiet plain_set_new _,codeAny_builtin PySem.F.entry_set_new ?_⟩));rw[Around.under_plainId plain_set_new _];unfold Builtin.«set.__new__» Builtin.Frozenset.newClass;have G:=sub_set_self;obtain⟨hp,g,d,tk,os⟩:=s;dsimp only;wp_walk;refine wpAny_askSetting (wY ?_);dsimp only;simp only[newObj];refine wX (wpAny_alloc (wY ?_));exact wY h
set_option maxHeartbeats 3200000 in
def qR 
  (hh:A.handled=none) (hl:s.heap.IsList l items) (hi:StrsAre items.toList ss) (hb:items.size+1<scanBound)
  (h:∀(h':Heap)(tk:Nat),iN prog w h' s.heap.objs.size (ge ss) ->
   (∀b o,b<s.heap.objs.size->s.heap.get? b=some o->h'.get? b=some o)->Q (.ref s.heap.objs.size) { s with heap:=h',toks:=tk }):
  wpAny (model prog w) A (call (.type "set") [.ref l]) Q E s:=by
 obtain⟨c,tl,Wy⟩:=called_set.mro;have Uk:=called_set.made;have Wz:=called_set.sub;refine wpAny_call (codeAny_of_tree ?_);show wpAny _ _ (callAny (.type "set") _) _ _ _;refine wY ⟨Code.quiet_builtin _ (by decide +kernel),codeAny_builtin PySem.F.entry_type_call ?_⟩;rw[Around.under_plain (weight_type_call_type "set" [.ref l] []) rfl];have h1:=called_set.notType;have h2:=called_set.canCreate;have XE:=PySem.F.typeCall_set_1 (.ref l);have lq:ss.length=items.size:=by have:=hi.strs;rw[←this,vI,vG]
 repeat (any_goals (first|assumption|wp_step))
 refine codeAny_mono (yT (.ref l) (E:=E) (Q₁:=λobj O=>obj=.ref s.heap.objs.size/\O={ s with heap:=s.heap.push (fw w) }) ⟨rfl,rfl⟩) λr O hr=>?_;cases r with
 |error e=>exact hr
 |ok fl=>
  cases fl with
  |ret obj=>
   obtain⟨rfl,rfl⟩:=hr;have hS:(s.heap.push (fw w)).get? s.heap.objs.size=some (fw w):=vY _ rfl;have hT:Shared.TypeIs { s with heap:=s.heap.push (fw w) } (.ref s.heap.objs.size) "set":=⟨_,hS,rfl⟩;have XF:=called_set.init.lookup;have XG:=called_set.init.bind (.ref s.heap.objs.size);repeat (any_goals (first|assumption|wp_step))
   refine codeAny_mono (codeAny_call_builtin (R:=wants (λr T=>r=.none/\∃h' tk,T={ s with heap:=h',toks:=tk } /\
     iN prog w h' s.heap.objs.size (ge ss) /\
     (∀b o,b<s.heap.objs.size->s.heap.get? b=some o->h'.get? b=some o)) E) called_set.init.plain PySem.F.entry_set_init (check_set_init_1 hT ?_)) λr₂ T G=>?_
   ·obtain⟨ol,QC,MZ,nl,NJ⟩:=hl;obtain⟨W1,U,Ul,M⟩:=ol;simp only at MZ NJ;subst MZ;subst NJ;have Sl:(s.heap.push (fw w)).get? l=some { cls:=.type "list",dict:=U,data:=.seq items nl,slots:=M }:=vZ _ QC;have W2:=PySem.F.sub_list_set;have W3:=PySem.F.sub_list_frozenset;have E6:(Value.type "list" == Value.type "dict")=false:=by decide
    have KR:(s.heap.push (fw w)).IsList l items:=⟨_,Sl,rfl,nl,rfl⟩;unfold Builtin.«set.__init__» noKeywords Builtin.Frozenset.updateFrom;generalize hPI:pyIter=PI;wp_walk;subst hPI;refine wpAny_pyIter_list KR ?_;refine wX (wpAny_runValue ?_);have Um:l<s.heap.objs.size:=vX QC;have W4:A.in1.in1.in1.handled=none:=by simp[hh]
    have Sm:l≠(s.heap.push (fw w)).objs.size:=by
     rw[Heap.size_push];exact vS (lt_succ_of_lt Um)
    have QE:s.heap.objs.size∉[(s.heap.push (fw w)).objs.size,l]:=by
     rw[Heap.size_push];simp only[mem_cons,mem_singleton,not_mem_nil,or_false,not_or];exact⟨vS (lt_succ_self _),ne_of_gt Um⟩
    have Sn:∀(i:Nat)(v:Value),items[i]? = some v->∃x t,v=.str x t/\ss[i]? = some x:=λi v hv=>
     StrsAre.at hi i v (by rw[getElem?_toList];exact hv)
    refine xy ((Walks.list W4 _ l Sm items).toS) s.heap.objs.size
     QE ss lq Sn hb (items.size - 0) 0 _ (by omega) (uN _)
     ⟨⟨_,vY _ rfl,rfl,rfl⟩,(KR.push _)⟩ ?hS0 ?hR
    case hS0=>
     have So:((s.heap.push (fw w)).push { cls:=.type "list_iterator",data:=.fields #[.ref l,.int 0 0] }).get? s.heap.objs.size
       = some (fw w):=vZ _ hS
     exact⟨_,#[],0,_,So,⟨rfl,rfl,rfl⟩,rfl,λe he=>by simp at he,List.Perm.refl _,nodup_nil,(by show(0:Nat)<scanBound;decide),rfl,rfl,λz=>absurd rfl z⟩
    case hR=>
     intro s' hm Hr
     obtain⟨h',g',d',Na,W5⟩:=s'
     have eg:g'=s.gens:=hm.gens
     have ed:d'=s.drawn:=hm.drawn
     have eo:W5=s.os:=hm.os
     subst eg;subst ed;subst eo
     show wpAny _ _ _ _ _ _
     refine wY ?_
     show wpAny _ _ (ret Value.none) _ _ _
     refine wY ⟨rfl,h',Na,rfl,Hr,λb o hb e=>?_⟩
     have hb1:b≠s.heap.objs.size:=vS hb
     have W6:b≠(s.heap.push (fw w)).objs.size:=by
      rw[Heap.size_push];exact vS (lt_succ_of_lt hb)
     exact hm.heap b o (by simp only[mem_cons,mem_singleton,not_mem_nil,or_false,not_or];exact⟨hb1,W6⟩) (vZ _ (vZ _ e))
   ·cases r₂ with
    |error e=>exact G
    |ok fl₂=>
     cases fl₂ with
     |ret r=>
      obtain⟨rfl,h',tk,rfl,Hr,KU⟩:=G;repeat (any_goals (first|assumption|wp_step))
      exact h _ _ Hr KU
     |_=>exact G.elim
  |_=>exact hr.elim
end
open Sem (wp)
section
variable {M:Model}{A:Around}{E:QV}{s:Shared}
def IM (hn:n≠0)(h:∀k d,k<n->Q k { s with drawn:=d }):wpAny M A (choose src n) Q E s:=by
 intro G p O;unfold choose;rw[Sem.wp_choose];refine⟨hn,?_⟩;have:=h _ (s.drawn.bump src) (Nat.mod_lt (M.w.draws src (s.drawn.get src)) (Nat.pos_of_ne_zero hn));simpa using this
end
def mU {α:Type}:∀(l:List α)(i:Nat),i<l.length->(l.eraseIdx i).length=l.length - 1:=λl i h=>by rw[List.length_eraseIdx,if_pos h]
theorem ml {α:Type}:∀(l:List α)(i:Nat)(x:α),l[i]? = some x->(x::l.eraseIdx i).Perm l
 |[],i,x,h=>by simp at h
 |a::l,0,x,h=>by simp at h;subst h;exact List.Perm.refl _
 |a::l,i+1,x,h=>by
  rw[List.eraseIdx_cons_succ];simp only[getElem?_cons_succ]at h;exact(List.Perm.swap a x _).trans ((ml l i x h).cons a)
theorem Cb {α:Type}:∀(n:Nat)(xs:List α)(s:Shared)(Q:List α->Shared->Prop),xs.length=n->(∀ys d,ys.Perm xs->Q ys { s with drawn:=d })->wpAny M A (drawOrder n xs) Q E s
 |0,xs,s,Q,hl,h=>by
  have:xs=[]:=List.eq_nil_of_length_eq_zero hl;subst this;exact wY (h [] s.drawn (List.Perm.refl _))
 |n+1,[],s,Q,hl,h=>by simp at hl
 |n+1,x::r,s,Q,hl,h=>by
  show wpAny M A (choose .order (x::r).length>>=λi=>match (x::r)[i]? with
   |some G=>(do return G::(←drawOrder n ((x::r).eraseIdx i)))
   |none=>unsupported "internal:drawOrder") Q E s
  refine wX (IM (by simp) λk d hk=>?_);obtain⟨y,hy⟩:∃y,(x::r)[k]? = some y:=⟨_,vU hk⟩;rw[hy];refine wX (Cb n _ _ _ (by rw[mU _ _ hk,hl];rfl) λys d' hp=>wY (h _ _ ((hp.cons y).trans (ml _ _ _ hy))))
theorem Cc {α:Type}(next:Nat->Nat):∀(fuel k:Nat)(left:List α)(out:Array α),left.length=fuel->(pickOrder.go next fuel k left out).toList.Perm (out.toList++left)
 |0,k,left,out,hl=>by
  have:left=[]:=List.eq_nil_of_length_eq_zero hl;subst this;unfold pickOrder.go;simp
 |fuel+1,k,left,out,hl=>by
  unfold pickOrder.go;have hk:next k % left.length<left.length:=Nat.mod_lt _ (by omega);obtain⟨y,hy⟩:∃y,left[next k % left.length]? = some y:=⟨_,vU hk⟩;rw[hy];dsimp only;refine(Cc next fuel (k+1) _ _ (by rw[mU _ _ hk];omega)).trans ?_;rw[toList_push,append_assoc];exact(ml _ _ _ hy).append_left _
def DC {α:Type}(next:Nat->Nat)(xs:Array α):(pickOrder next xs).toList.Perm xs.toList:=by
 have:=Cc next xs.size 0 xs.toList #[] (by simp);simpa [pickOrder]using this
def bG:Slot "set_iterator" "__next__" "set_iterator.__next__" :=
 .of (owner:="set_iterator") (n:="__next__") (by rw[typeLookup_type,builtinLookup_eq_fast];kernel_rfl) (by decide +kernel) (by decide +kernel) (by decide +kernel)
  (by first|exact .inl (by decide +kernel)|exact .inr (by decide +kernel)) (by rw[isSubtype_type];kernel_rfl)
def fM:entryFor table "set_iterator.__next__" = some Builtin.«set_iterator.__next__»:=entryFor_of_tree (by kernel_rfl)
def gD (a:Value):argsOk "set_iterator.__next__" ⟨[a],[]⟩:=by unfold argsOk;kernel_rfl
def lL:Slot "set_iterator" "__iter__" "set_iterator.__iter__" :=
 .of (owner:="set_iterator") (n:="__iter__") (by rw[typeLookup_type,builtinLookup_eq_fast];kernel_rfl) (by decide +kernel) (by decide +kernel) (by decide +kernel)
  (by first|exact .inl (by decide +kernel)|exact .inr (by decide +kernel)) (by rw[isSubtype_type];kernel_rfl)
def qS:entryFor table "set_iterator.__iter__" = some Builtin.«dict_keyiterator.__iter__» :=
 entryFor_alias (id':="dict_keyiterator.__iter__") (by kernel_rfl) rfl (by decide +kernel) (by kernel_rfl)
def ue (a:Value):argsOk "set_iterator.__iter__" ⟨[a],[]⟩:=by unfold argsOk;kernel_rfl
def pT:entryFor table "set.__iter__" = some Builtin.«frozenset.__iter__» :=
 entryFor_alias (id':="frozenset.__iter__") (by kernel_rfl) rfl (by decide +kernel) (by kernel_rfl)
noncomputable abbrev mm (G:Value)(i:Nat)(S:Addr)(n M:Nat):Obj:={ cls:=.type "set_iterator",data:=.fields #[G,.int i 0,.ref S,.int n 0,.int M 0] }
section
variable {prog:Program}{w:World}{A:Around}{E:QV}{s:Shared}{it S:Addr}{i ep:Nat}{o:Obj}{es:Array (Int×Value)}{t:SetTable}
def ee (G:s.heap.get? it=some (mm fst i S n ep)):s.TypeIs (.ref it) "set_iterator":=⟨_,G,rfl⟩
def xz {k k':Nat}{x:Value}{Q:Option Value->Shared->Prop}(G:s.heap.get? it=some (mm (.int k 0) i S es.size ep))
  (O:s.heap.get? S=some o) (hd:o.data=.set es ep t) (hf:t.fits es.size=true)
  (T:∀(U:Around)(E':QV)(M:Option (Value×Nat)->Shared->Prop),M (some (x,k')) s->wpAny (model prog w) U (setNext S k i ep) M E' s)
  (hQ:∀h',h'.get? it=some (mm (.int k' 0) (i+1) S es.size ep)->Heap.SameBut it s.heap h'->Q (some x) { s with heap:=h' }):
  wpAny (model prog w) A (pyNext (.ref it)) Q E s:=by
 unfold pyNext;refine wX (wpAny_attempt (wpAny_callSpecial?_slot (name:=Str.ofString "__next__") (ee G) bG
  (wpAny_call_entry bG (ee G) fM ?_ (gD _))))
 show wpAny _ _ (fieldsOf (.ref it)>>=_) _ _ s;refine wX (wpAny_fieldsOf G rfl ?_);show wpAny _ _ (setEntries S>>=_) _ _ s;refine wX (wpAny_setEntries_of O hd hf ?_);rw[if_neg (by simp)];show wpAny _ _ (setNext S _ _ _>>=_) _ _ s;simp only[toNat_natCast];refine wX (T _ _ _ ?_);dsimp only;refine wX (wpAny_setField_rec G (by simp) λh1 e1 b1=>?_);refine wX (wpAny_setField_rec e1 (by simp) λh2 e2 b2=>?_);exact wY ⟨x,rfl,wY (hQ h2 (by simpa [rawInt,mm]using e2) (b1.trans b2))⟩
def x0 {k:Nat}{Q:Option Value->Shared->Prop}(hh:A.handled=none)(G:s.heap.get? it=some (mm (.int k 0) i S es.size ep))
  (O:s.heap.get? S=some o) (hd:o.data=.set es ep t) (hf:t.fits es.size=true)
  (U:∀(A':Around)(E':QV)(M:Option (Value×Nat)->Shared->Prop),M none s->wpAny (model prog w) A' (setNext S k i ep) M E' s)
  (hQ:∀h',Heap.ExtBut it s.heap h'->Q none { s with heap:=h' }):
  wpAny (model prog w) A (pyNext (.ref it)) Q E s:=by
 unfold pyNext;refine wX (wpAny_attempt (wpAny_callSpecial?_slot (name:=Str.ofString "__next__") (ee G) bG
  (wpAny_call_entry bG (ee G) fM ?_ (gD _))))
 show wpAny _ _ (fieldsOf (.ref it)>>=_) _ _ s;refine wX (wpAny_fieldsOf G rfl ?_);show wpAny _ _ (setEntries S>>=_) _ _ s;refine wX (wpAny_setEntries_of O hd hf ?_);rw[if_neg (by simp)];show wpAny _ _ (setNext S _ _ _>>=_) _ _ s;simp only[toNat_natCast];refine wX (U _ _ _ ?_);dsimp only;refine wX (wpAny_setField_rec G (by simp) λh1 e1 b1=>?_);refine wX ?_;simp only[newExc,newTuple];refine wX (wpAny_newObj_type ?_ (by size_fits));refine wX (m:=firstArgMember _ _) (wpAny_of_eq (a:=Value.none) (by first|rfl|(simp only[firstArgMember];rfl)) ?_);refine wpAny_newObj_type ?_ (by size_fits);simp only[raiseNew];refine wX (wpAny_handled ?_);rw[show A.in1.handled=none from hh];refine wX (wY (wpAny_throw ?_));refine wX (wpAny_isInstance (T:="StopIteration") (b:=true) ⟨_,vY _ rfl,rfl⟩ isSubtype_stop ?_);exact wY (hQ _ ((b1.extBut.push _).push _))
def ug {T:Addr}{pl:LN}{p:Nat}{x:Int×Value}{nt:Nat}{Q:Option Value->Shared->Prop}(G:s.heap.get? it=some (mm (.ref T) i S es.size ep))
  (U:s.heap.get? T=some (seqObj "tuple" (pl.map λ(p:Nat)=>Value.int p 0).toArray nt))
  (O:s.heap.get? S=some o) (hd:o.data=.set es ep t) (hf:t.fits es.size=true) (hp:pl[i]? = some p) (hx:es[p]? = some x)
  (hQ:∀h',h'.get? it=some (mm (.ref T) (i+1) S es.size ep)->Heap.SameBut it s.heap h'->Q (some x.2) { s with heap:=h' }):
  wpAny (model prog w) A (pyNext (.ref it)) Q E s:=by
 unfold pyNext;refine wX (wpAny_attempt (wpAny_callSpecial?_slot (name:=Str.ofString "__next__") (ee G) bG
  (wpAny_call_entry bG (ee G) fM ?_ (gD _))))
 show wpAny _ _ (fieldsOf (.ref it)>>=_) _ _ s;refine wX (wpAny_fieldsOf G rfl ?_);show wpAny _ _ (setEntries S>>=_) _ _ s;refine wX (wpAny_setEntries_of O hd hf ?_);rw[if_neg (by simp)];show wpAny _ _ (seqItems? (.ref T)>>=_) _ _ s;refine wX (wpAny_seqItems U rfl ?_);have M:(pl.map λ(p:Nat)=>Value.int p 0).toArray[(i:Int).toNat]? = some (.int p 0):=by simp[hp]
 dsimp only;rw[M];dsimp only;have e2:wpAny (model prog w) A.in1 (setNextDrawn S (p:Int).toNat (ep:Int).toNat) (λy s'=>y=x.2/\s'=s) (λ_ _=>False) s:=by
  unfold setNextDrawn;refine wX (wpAny_setState_of O hd hf ?_);dsimp only;rw[if_neg (by simp)];simp only[toNat_natCast,hx];exact wY ⟨rfl,rfl⟩
 refine wX (wpAny_mono e2 (λy s' hy=>?_) λ_ _ z=>z.elim);obtain⟨rfl,rfl⟩:=hy;refine wX (wpAny_setField_rec G (by simp) λh1 M b1=>?_);exact wY ⟨_,rfl,wY (hQ h1 (by simpa [rawInt,mm]using M) b1)⟩
def uh {T:Addr}{pl:LN}{nt:Nat}{Q:Option Value->Shared->Prop}(hh:A.handled=none)(G:s.heap.get? it=some (mm (.ref T) i S es.size ep))
  (O:s.heap.get? T=some (seqObj "tuple" (pl.map λ(p:Nat)=>Value.int p 0).toArray nt))
  (U:s.heap.get? S=some o) (hd:o.data=.set es ep t) (hf:t.fits es.size=true) (hp:pl[i]? = none)
  (hQ:∀h',Heap.ExtBut it s.heap h'->Q none { s with heap:=h' }):
  wpAny (model prog w) A (pyNext (.ref it)) Q E s:=by
 unfold pyNext;refine wX (wpAny_attempt (wpAny_callSpecial?_slot (name:=Str.ofString "__next__") (ee G) bG
  (wpAny_call_entry bG (ee G) fM ?_ (gD _))))
 show wpAny _ _ (fieldsOf (.ref it)>>=_) _ _ s;refine wX (wpAny_fieldsOf G rfl ?_);show wpAny _ _ (setEntries S>>=_) _ _ s;refine wX (wpAny_setEntries_of U hd hf ?_);rw[if_neg (by simp)];show wpAny _ _ (seqItems? (.ref T)>>=_) _ _ s;refine wX (wpAny_seqItems O rfl ?_);have M:(pl.map λ(p:Nat)=>Value.int p 0).toArray[(i:Int).toNat]? = none:=by simpa using hp
 dsimp only;rw[M];dsimp only;refine wX (wpAny_setField_rec G (by simp) λh0 e0 b0=>?_);refine wX (wpAny_setField_rec e0 (by simp) λh1 M b1=>?_);refine wX ?_;simp only[newExc,newTuple];refine wX (wpAny_newObj_type ?_ (by size_fits));refine wX (m:=firstArgMember _ _) (wpAny_of_eq (a:=Value.none) (by first|rfl|(simp only[firstArgMember];rfl)) ?_);refine wpAny_newObj_type ?_ (by size_fits);simp only[raiseNew];refine wX (wpAny_handled ?_);rw[show A.in1.handled=none from hh];refine wX (wY (wpAny_throw ?_));refine wX (wpAny_isInstance (T:="StopIteration") (b:=true) ⟨_,vY _ rfl,rfl⟩ isSubtype_stop ?_);exact wY (hQ _ (((b0.trans b1).extBut.push _).push _))
def yU (G:s.heap.get? it=some (mm fst i S n ep))(h:Q (.ref it) s):wpAny (model prog w) A (pyIter (.ref it)) Q E s:=by
 refine wpAny_pyIter_slot (ee G) lL (wpAny_call_entry lL (ee G) qS ?_ (ue _));show wpAny _ _ (ret (.ref it)) _ _ s;exact wY ⟨_,rfl,"set_iterator",_,ee G,bG.lookup,h⟩
end
section
variable {prog:Program}{w:World}{A:Around}{E:QV}{s:Shared}{it S:Addr}{i k ep:Nat}{o:Obj}{es:Array (Int×Value)}{t:SetTable}
def ve (G:s.heap.get? S=some o)(hd:o.data=.set es ep t)(hf:t.fits es.size=true)(hb:w.params.followText "set-order" = true)
  (h:Q (((pickOrder (w.params.setOrder S ep) es)[i]?).map λe=>(e.2,k)) s):wpAny (model prog w) A (setNext S k i ep) Q E s:=by
 unfold setNext;refine wX (wpAny_setState_of G hd hf ?_);dsimp only;unfold setsByText;refine wX (wX (wpAny_askSetting (wY ?_)));show wpAny _ _ (if w.params.followText "set-order" = true then _ else _) _ _ _;rw[if_pos hb,if_neg (by simp)];unfold setWalk setsByText;refine wX (wX (wpAny_setState_of G hd hf ?_));dsimp only;refine wX (wX (wpAny_askSetting (wY ?_)));show wpAny _ _ (if w.params.followText "set-order" = true then _ else _) _ _ _;rw[if_pos hb];refine wX (wpAny_askSetting (wY ?_));exact wY h
def qT (G:s.heap.get? S=some o)(hd:o.data=.set es ep t)(hf:t.fits es.size=true)(hb:w.params.followText "set-order" = false)(hl:t.led=true)(hz:es.size<=1)
  (h:Q (match es[SetTable.below t.place k]?,t.place[SetTable.below t.place k]? with
   |some (_,x),some j=>some (x,j+1)
   |_,_=>none) s):wpAny (model prog w) A (setNext S k i ep) Q E s:=by
 unfold setNext;refine wX (wpAny_setState_of G hd hf ?_);dsimp only;unfold setsByText;refine wX (wX (wpAny_askSetting (wY ?_)));show wpAny _ _ (if w.params.followText "set-order" = true then _ else _) _ _ _;rw[if_neg (by rw[hb];simp)];show wpAny _ _ (if(!t.plain && decide (es.size > 1))=true then _ else _) _ _ _;rw[if_neg (by rw[Pz (by omega)];simp)];show wpAny _ _ ((if(!t.led && !es.isEmpty)=true then unsupported "set:maker-not-led" else pure ())>>=_) _ _ _;rw[hl,if_neg (by simp)];refine wX (wY ?_);exact wY h
def vg (hh:A.handled=none)(hd:o.data=.set es ep t)(hf:t.fits es.size=true)(U:S≠it)(vs:LU)(hv:vs.length=es.size)(sl:Nat->Nat)
  (hN:∀i x,vs[i]? = some x->∀(M:Around)(O:QV)(s:Shared)(G:Option (Value×Nat)->Shared->Prop),s.heap.get? S=some o->G (some (x,sl (i+1))) s->wpAny (model prog w) M (setNext S (sl i) i ep) G O s)
  (hE:∀(M:Around)(O:QV)(s:Shared)(G:Option (Value×Nat)->Shared->Prop),s.heap.get? S=some o->G none s->wpAny (model prog w) M (setNext S (sl es.size) es.size ep) G O s):
  Walks prog w A it [it,S] [it] es.size (λi v=>vs[i]? = some v) (λi h=>h.get? it=some (mm (.int (sl i) 0) i S es.size ep)/\h.get? S=some o) where
 sub:=λb hb=>by simp at hb;simp[hb]
 frame:=λ_ _ _ st hk=>⟨hk it (by simp) _ st.1,hk S (by simp) _ st.2⟩
 item:=λi s Q E hi st T=>by
  obtain⟨x,hx⟩:∃x,vs[i]? = some x:=⟨_,vU (by omega)⟩;refine xz st.1 st.2 hd hf (λM O G q=>hN i x hx M O s G st.2 q) λh' h1 h2=>?_;exact T x h' s.toks hx ⟨h1,h2.extBut S _ U st.2⟩ λb u hb e=>h2.extBut b u (λz=>hb (by simp[z])) e
 done:=λs Q E st T=>x0 hh st.1 st.2 hd hf (λM O G q=>hE M O s G st.2 q) λh' h1=>T h' s.toks λb u hb e=>h1 b u (λz=>hb (by simp[z])) e
 self:=λ_ _ _ _ st T=>yU st.1 T
def AU {T:Addr}{pl:LN}{nt:Nat}(hh:A.handled=none)(hd:o.data=.set es ep t)(hf:t.fits es.size=true)(O:S≠it)(U:T≠it)(hp:pl.Perm (List.range es.size)):
  Walks prog w A it [it,S,T] [it] es.size (λi v=>(pl.map λp=>(es.getD p (0,.none)).2)[i]? = some v)
   (λi h=>h.get? it=some (mm (.ref T) i S es.size ep)/\h.get? S=some o/\h.get? T=some (seqObj "tuple" (pl.map λ(p:Nat)=>Value.int p 0).toArray nt)) where
 sub:=λb hb=>by simp at hb;simp[hb]
 frame:=λ_ _ _ st hk=>⟨hk it (by simp) _ st.1,hk S (by simp) _ st.2.1,hk T (by simp) _ st.2.2⟩
 item:=λi s Q E hi st G=>by
  have M:pl.length=es.size:=by rw[hp.length_eq,length_range]
  obtain⟨p,hx⟩:∃p,pl[i]? = some p:=⟨_,vU (by omega)⟩;have W7:p<es.size:=mem_range.mp (hp.mem_iff.mp (vL hx));have he:es[p]? = some (es.getD p (0,.none)):=by rw[getD_eq_getD_getElem?,getElem?_eq_getElem W7];rfl
  refine ug st.1 st.2.2 st.2.1 hd hf hx he λh' h1 h2=>?_;exact G _ h' s.toks (by simp[hx]) ⟨h1,h2.extBut S _ O st.2.1,h2.extBut T _ U st.2.2⟩ λb u hb e=>h2.extBut b u (λz=>hb (by simp[z])) e
 done:=λs Q E st G=>by
  have M:pl.length=es.size:=by rw[hp.length_eq,length_range]
  exact uh hh st.1 st.2.2 st.2.1 hd hf (getElem?_eq_none (by omega)) λh' h1=>G h' s.toks λb u hb e=>h1 b u (λz=>hb (by simp[z])) e
 self:=λ_ _ _ _ st G=>yU st.1 G
end
def AW {α:Type}(es:Array α)(d:α):(List.range es.size).map (λp=>es.getD p d)=es.toList:=by
 apply ext_getElem?;intro i;by_cases h:i<es.size
 ·simp[h,getD_eq_getD_getElem?]
 ·simp[h]
section
variable {prog:Program}{w:World}{A:Around}{E:QV}{s:Shared}
def vh (h:xs=#[j]):SetTable.below xs k=if j<k then 1 else 0:=by
 subst h;by_cases h:j<k
 ·simp[SetTable.below,SetTable.below.go,h]
 ·simp[SetTable.below,SetTable.below.go,h]
def FD {S:Addr}{ts:LS}{Q:QV}(hS:iN prog w s.heap S ts)
  (hQ:∀(h':Heap)(d:Drawn)(it:Addr)(vs:LU)(fp:List Addr)(St:Nat->Heap->Prop),(∀A',A'.handled=none->Walks prog w A' it fp [it] ts.length (λi v=>vs[i]? = some v) St)->St 0 h' ->
   (∀b u,s.heap.get? b=some u->h'.get? b=some u)->s.heap.objs.size<=it->(∀b∈fp,b=S∨s.heap.objs.size<=b)->vs.length=ts.length->(vs.map strOf).Perm ts->(∀v∈vs,∃x t,v=.str x t) ->
   Q (.ref it) { s with heap:=h',drawn:=d }):wpAny (model prog w) A (pyIter (.ref S)) Q E s:=by
 obtain⟨o,es,ep,t,ho,Kj,hd,KQ,hp,nd,hb,hf,Km,Kk⟩:=hS;have sz:es.size=ts.length:=by rw[←hp.length_eq,vI,vG]
 have T:S<s.heap.objs.size:=vX ho;have Uo:s.TypeIs (.ref S) "set":=⟨_,ho,Kj.1⟩;have M:∀e∈es.toList,∃x t,e.2=.str x t:=λe he=>by
  obtain⟨⟨k,hk,_⟩,_⟩:=KQ e he;obtain⟨t,q⟩:=Value.isStrOf_shape (show Value.isStrOf k e.2=true from hk);exact⟨k,t,q⟩
 refine wpAny_pyIter_slot Uo slot_set_iter (wpAny_call_entry slot_set_iter Uo pT ?_ (PySem.F.args_set_iter_1 _));show wpAny _ _ (Builtin.Frozenset.sizeOf S>>=_) _ _ s;unfold Builtin.Frozenset.sizeOf;refine wX (wX (wpAny_setEntries_of ho hd hf (wY ?_)));unfold setDrawn setsByText;refine wX (wX (wpAny_setState_of ho hd hf ?_));dsimp only;refine wX (wX (wpAny_askSetting (wY (wY ?_))));show wpAny _ _ (if(!w.params.followText "set-order" && (!t.plain && decide (es.size > 1)))=true then _ else _) _ _ _;have U:(es.toList.map (·.2)).map strOf=es.toList.map (λe=>strOf e.2):=by rw[uP];rfl
 by_cases G:w.params.followText "set-order" = true
 ·rw[if_neg (by rw[G];simp)];refine wX (wY ?_);refine wX (wpAny_setEpoch_of ho hd hf ?_);have pp:=DC (w.params.setOrder S ep) es;have lq:((pickOrder (w.params.setOrder S ep) es).toList.map (·.2)).length=es.size:=by rw[vI,pp.length_eq,vG]
  refine wX (wpAny_newObj_type (wY ⟨_,rfl,"set_iterator",_,⟨_,vY _ rfl,rfl⟩,bG.lookup,?_⟩));refine hQ _ s.drawn s.heap.objs.size ((pickOrder (w.params.setOrder S ep) es).toList.map (·.2)) [s.heap.objs.size,S] (λi h=>h.get? s.heap.objs.size=some (mm (.int ((λ_=>0:Nat->Nat) i:Nat) 0) i S es.size ep)/\h.get? S=some o) (λA' hA=>?_) ?_ (λb u e=>vZ _ e) (vT _) (λb hb=>?_) (lq.trans sz) ?_ ?_
  ·rw[←sz];exact vg hA hd hf (vS T) _ lq (λ_=>0) (λi x hx A' E' s Q' h1 h2=>ve h1 hd hf G (by
    rw[vA,getElem?_toList]at hx;obtain⟨e,he,rfl⟩:=oY hx;rw[he];exact h2)) (λA' E' s Q' h1 h2=>ve h1 hd hf G (by
    rw[Array.getElem?_eq_none (by rw[←vG,pp.length_eq,vG];exact vT _)];exact h2))
  ·exact⟨vY _ rfl,vZ _ ho⟩
  ·simp only[mem_cons,not_mem_nil,or_false]at hb;rcases hb with rfl|rfl
   ·exact .inr (vT _)
   ·exact .inl rfl
  ·refine List.Perm.trans ?_ hp;rw[←U];exact(pp.map _).map _
  ·intro v hv;obtain⟨e,he,rfl⟩:=vO hv;exact M e (pp.mem_iff.mp he)
 ·rw[Bool.not_eq_true]at G;have hl:t.led=true:=by rw[Km,G];rfl
  by_cases h1:es.size<=1
  ·rw[if_neg (by rw[Pz (by omega)];simp)];refine wX (wY ?_);refine wX (wpAny_setEpoch_of ho hd hf ?_);refine wX (wpAny_newObj_type (wY ⟨_,rfl,"set_iterator",_,⟨_,vY _ rfl,rfl⟩,bG.lookup,?_⟩));have XH:t.place.size=es.size:=by
    simp only[SetTable.fits,vC,beq_iff_eq,decide_eq_true_eq]at hf;exact hf.1
   refine hQ _ s.drawn s.heap.objs.size (es.toList.map (·.2)) [s.heap.objs.size,S] (λi h=>h.get? s.heap.objs.size=some (mm (.int ((λi=>if i=0 then 0 else t.place.getD 0 0+1:Nat->Nat) i:Nat) 0) i S es.size ep)/\h.get? S=some o) (λA' hA=>?_) ?_ (λb u e=>vZ _ e) (vT _) (λb hb=>?_) (by rw[vI,vG,sz]) (by rw[U];exact hp) ?_
   ·rw[←sz];refine vg hA hd hf (vS T) _ (by simp) (λi=>if i=0 then 0 else t.place.getD 0 0+1) (λi x hx A' E' s Q' q1 q2=>qT q1 hd hf G hl h1 ?_) (λA' E' s Q' q1 q2=>qT q1 hd hf G hl h1 ?_)
    ·have hi:i<es.size:=by have:=(vV hx).1;simpa using this
     have W8:i=0:=by omega
     subst W8;obtain⟨j,hj⟩:∃j,t.place=#[j]:=Array.size_eq_one_iff.mp (by omega);rw[if_pos rfl,vh hj,if_neg (by omega)];rw[vA,getElem?_toList]at hx;obtain⟨e,he,rfl⟩:=oY hx;rw[he];simp only[hj]at q2 ⊢;simpa using q2
    ·by_cases h0:es.size=0
     ·have Sq:t.place=#[]:=Array.eq_empty_of_size_eq_zero (by omega);have W9:es=#[]:=Array.eq_empty_of_size_eq_zero h0;rw[Sq,W9];simpa using q2
     ·obtain⟨j,hj⟩:∃j,t.place=#[j]:=Array.size_eq_one_iff.mp (by omega);rw[if_neg h0,vh hj];have:t.place.getD 0 0=j:=by rw[hj];rfl
      rw[this,if_pos (by omega),Array.getElem?_eq_none (by omega)];exact q2
   ·exact⟨vY _ rfl,vZ _ ho⟩
   ·simp only[mem_cons,not_mem_nil,or_false]at hb;rcases hb with rfl|rfl
    ·exact .inr (vT _)
    ·exact .inl rfl
   ·intro v hv;obtain⟨e,he,rfl⟩:=vO hv;exact M e he
  ·have Sq:t.plain=false:=Kk (by omega);rw[if_pos (by rw[G,Sq,Au (by omega)];rfl)];refine wX (Cb es.size (List.range es.size) _ _ (by simp) λpl d pp=>?_);refine wX (wpAny_newTuple ?_ (by rw[vI,pp.length_eq,length_range,sz];exact fits_of_scanBound hb));refine wX (wpAny_setEpoch_of (vZ _ ho) hd hf ?_);refine wX (wpAny_newObj_type (wY ⟨_,rfl,"set_iterator",_,⟨_,vY _ rfl,rfl⟩,bG.lookup,?_⟩));have hsz:(s.heap.push (seqObj "tuple" (pl.map λ(p:Nat)=>Value.int p 0).toArray 0)).objs.size=s.heap.objs.size+1:=size_push' _ _;have O:((pl.map λp=>(es.getD p (0,.none)).2)).Perm (es.toList.map (·.2)):=by
    have:=(pp.map λp=>es.getD p (0,Value.none)).map (·.2);rw[AW]at this;rw[uP]at this;exact this
   refine hQ _ d _ (pl.map λp=>(es.getD p (0,.none)).2) [(s.heap.push (seqObj "tuple" (pl.map λ(p:Nat)=>Value.int p 0).toArray 0)).objs.size,S,s.heap.objs.size] (λi h=>h.get? (s.heap.push (seqObj "tuple" (pl.map λ(p:Nat)=>Value.int p 0).toArray 0)).objs.size=some (mm (.ref s.heap.objs.size) i S es.size ep)/\h.get? S=some o/\h.get? s.heap.objs.size=some (seqObj "tuple" (pl.map λ(p:Nat)=>Value.int p 0).toArray 0)) (λA' hA=>?_) ?_ (λb u e=>vZ _ (vZ _ e)) ?_ (λb hb=>?_) ?_ ?_ ?_
   ·rw[←sz];exact AU (nt:=0) hA hd hf (by show S≠(s.heap.push _).objs.size;rw[size_push'];exact vS (lt_succ_of_lt T)) (by show s.heap.objs.size≠(s.heap.push _).objs.size;rw[size_push'];exact vS (lt_succ_self _)) pp
   ·exact⟨vY _ rfl,vZ _ (vZ _ ho),vZ _ (vY _ rfl)⟩
   ·show s.heap.objs.size<=(s.heap.push _).objs.size;rw[size_push'];omega
   ·simp only[mem_cons,not_mem_nil,or_false]at hb;rcases hb with rfl|rfl|rfl
    ·refine .inr ?_;show s.heap.objs.size<=(s.heap.push _).objs.size;rw[size_push'];omega
    ·exact .inl rfl
    ·exact .inr (vT _)
   ·rw[O.length_eq,vI,vG,sz]
   ·exact((O.map strOf).trans (by rw[U])).trans hp
   ·intro v hv;obtain⟨e,he,rfl⟩:=vO (O.mem_iff.mp hv);exact M e he
end
def DD (h:ItemsOf (λi v=>vs[i]? = some v) As vs.length):As.toList=vs:=by
 apply ext_getElem?;intro i;by_cases hi:i<As.size
 ·have e:As[i]? = some As[i]:=getElem?_eq_getElem hi;rw[getElem?_toList,e,h.2 i _ e]
 ·rw[getElem?_eq_none (by rw[vG];omega),getElem?_eq_none (by rw[←h.1];omega)]
section
variable {prog:Program}{w:World}{A:Around}{E:QV}{s:Shared}
def yV (hh:A.handled=none)(hS:iN prog w s.heap S ts)
  (hQ:∀s' vs,(∀b u,s.heap.get? b=some u->s'.heap.get? b=some u)->s'.gens=s.gens->s'.os=s.os->vs.length=ts.length->(vs.map strOf).Perm ts->(∀v∈vs,∃x t,v=.str x t)->Q vs s'):
  wpAny (model prog w) A (collect (.ref S)) Q E s:=by
 have G:∀(s1:Shared),iN prog w s1.heap S ts->s1.TypeIs (.ref S) "set":=λs1 h=>by
  obtain⟨o,_,_,_,ho,Kj,_⟩:=h;exact⟨o,ho,Kj.1⟩
 have yj:S<s.heap.objs.size:=by obtain⟨o,_,_,_,ho,_⟩:=hS;exact vX ho
 have T:ts.length<scanBound:=by obtain⟨_,_,_,_,_,_,_,_,_,_,h,_⟩:=hS;exact h
 unfold collect;refine wX (wpAny_runValue (codeAny_builtin PySem.F.entry_proto_collect ?_));rw[Around.under_plainId PySem.F.plain_proto_collect _];show wpAny _ A.in1 (newList []>>=λl=>again (.builtin "list.__iadd__" ⟨[l,.ref S],[]⟩)) _ _ s;refine wX (wpAny_newObj_type ?_);refine wY ⟨plainId_quiet PySem.F.plain_list_iadd _,codeAny_builtin PySem.F.entry_list_iadd ?_⟩;rw[Around.under_plainId PySem.F.plain_list_iadd _];show wpAny _ A.in1 (Builtin.List.listExtendWith (.ref s.heap.objs.size) (.ref S) (.ref s.heap.objs.size)) _ _ _;unfold Builtin.List.listExtendWith;have U:iN prog w (s.heap.push { cls:=.type "list",data:=.seq ([]:LU).toArray }) S ts:=hS.at λo e=>vZ _ e;refine wX (wpAny_typeOf (G _ U) ?_);have Nb:s.heap.objs.size≠S:=ne_of_gt yj;have h1:Builtin.List.listSameRef (.ref s.heap.objs.size) (.ref S)=false:=by simp[Builtin.List.listSameRef,Nb]
 have h2:(Value.type "set" == Value.type "list")=false:=by decide
 have h3:(Value.type "set" == Value.type "tuple")=false:=by decide
 simp only[h1,h2,h3,Bool.or_false,uV,if_false];refine wX (FD (s:={ s with heap:=s.heap.push { cls:=.type "list",data:=.seq ([]:LU).toArray } }) U λh' d it vs fp St W E7 hk Ex hfp MV hperm hstr=>?_);have KS:iN prog w h' S ts:=U.at λo e=>hk _ _ e;refine wX (wpAny_holding ?_);unfold Builtin.List.listLengthHint;refine wX (wpAny_specialOf (G _ KS) PySem.F.slot_set_len.lookup ?_);wp_delta;refine wX (wpAny_isInstance (G _ KS) sub_set_self ?_);show wpAny _ A.in1 (typeOf (Value.ref S)>>=_) _ _ _;refine wX (wpAny_typeOf (G _ KS) ?_);refine wY ?_;rw[if_pos (by decide)];refine wX (wpAny_rule ?_);refine wX ?_;have M:(s.heap.push { cls:=.type "list",data:=.seq ([]:LU).toArray }).objs.size=s.heap.objs.size+1:=size_push' _ _;have Uq:h'.get? s.heap.objs.size=some { cls:=.type "list",data:=.seq ([]:LU).toArray }:=hk _ _ (vY _ rfl);show wpAny _ A.in1 (updateSeq s.heap.objs.size (·.push .none)>>=λ_=>updateSeq s.heap.objs.size (·.pop)) _ _ _;refine wX (wpAny_updateSeq Uq rfl ?_);have Ur:=Heap.get?_update_self (Obj.mapSeq (·.push Value.none)) Uq rfl;refine wpAny_updateSeq Ur rfl ?_;have WA:=Heap.get?_update_self (Obj.mapSeq (·.pop)) Ur rfl;have QE:s.heap.objs.size∉fp:=λhm=>by
  rcases hfp _ hm with z|z
  ·exact Nb z
  ·rw[M]at z;exact absurd z (Nat.not_succ_le_self _)
 have A1:∀b u,b≠s.heap.objs.size->h'.get? b=some u ->
   ((h'.update s.heap.objs.size (Obj.mapSeq (·.push Value.none))).update s.heap.objs.size (Obj.mapSeq (·.pop))).get? b=some u :=
  λb u hb e=>(Heap.get?_update_other _ _ (Ne.symm hb)).trans ((Heap.get?_update_other _ _ (Ne.symm hb)).trans e)
 have W0:=W A.in1 hh;refine wY ⟨plainId_quiet plain_extend_loop _,codeAny_extend_loopS W0.toS (fits_of_scanBound T) _ QE _ ts.length 0 _ _ _ rfl (uN _)
  (W0.frame 0 _ _ E7 λb hb u e=>A1 b u (λz=>QE (z ▸ hb)) e) WA (ItemsOf.nil _) λs' acc' c' hm hL' O=>?_⟩
 show wpAny _ A (load s.heap.objs.size>>=_) _ _ s';refine wX (wpAny_load hL' ?_);rw[←MV]at O;refine wY ?_;show Q acc'.toList s';rw[DD O];refine hQ s' vs (λb u e=>hm.heap b u (λhb=>?_) (A1 b u (vS (vX e)) (hk _ _ (vZ _ e)))) hm.gens hm.os MV hperm hstr;have hl:=vX e;simp only[mem_cons,not_mem_nil,or_false]at hb;rcases hb with rfl|rfl
 ·exact absurd hl (Nat.lt_irrefl _)
 ·rw[M]at Ex;exact absurd (vQ hl (Nat.le_of_succ_le Ex)) (Nat.lt_irrefl _)
def AX (hh:A.handled=none)(hS:iN prog w s.heap S ts)(NK:ts.length<64)
  (hQ:∀(s1:Shared)(h':Heap)(a:Addr)(out:AV)(n:Nat)(G:LS),(∀b u,s.heap.get? b=some u->s1.heap.get? b=some u)->s1.os=s.os->s1.gens=s.gens->(∀b u,s1.heap.get? b=some u->h'.get? b=some u)->s1.heap.objs.size<=a->h'.get? a=some (seqObj "list" out n) ->
   StrsAre out.toList G->G.Perm ts->sortedS G=true->Q (.ref a) { s1 with heap:=h' }):
  wpAny (model prog w) A (call (.builtin "sorted") [.ref S]) Q E s:=by
 refine Calls.call_function_entry kind_sorted plain_sorted entry_sorted (args_sorted1 _) ?_;unfold Builtin.«sorted»;refine wX (m:=checkCount "sorted" 1 1 _) (wY ?_);refine wX (yV (A:=A.in1) (by exact hh) hS λs1 vs hk hg hos U M hstr=>?_);have O:StrsAre vs (vs.map strOf):=strsAre_map vs hstr;refine wX (wpAny_newList ?_ (by rw[U,sizeLine_eq];omega));have T:(s1.heap.push (seqObj "list" vs.toArray 0)).get? s1.heap.objs.size=some (seqObj "list" vs.toArray 0):=vY _ rfl;show wpAny _ _ _ _ _ { s1 with heap:=s1.heap.push (seqObj "list" vs.toArray 0) };refine wX (wpAny_holding (wpAny_call_entry slot_list_sort ⟨_,T,rfl⟩ entry_list_sort (list_sort_treeK strKind_oneLt T O.keysOf (λv₁ v₂ ay e=>keyKind_strs (by rw[←e];exact O)) (by rw[U];exact NK) λMY a1 a2=>⟨_,rfl,?_⟩) (args_list_sort _)));obtain⟨G,b1,b2,b3⟩:=sorted_out_str O a1 a2;obtain⟨e,he⟩:=sortedHeap_at (out:=(arrOf MY).map (·.2)) T;refine wY ⟨_,rfl,hQ s1 _ _ _ e G hk hos hg (λb u q=>?_) (vT _) he b1 (b2.trans M) b3⟩;have hl:=vX q;rw[sortedHeap_old (vS hl) (by rw[size_push'];exact lt_succ_of_lt hl)];exact vZ _ q
end
end DL
namespace DL
open PySem PySem.Spec PyProof.Rows L2
def xA (a b:Str):Prop:=¬b.cps.toList<a.cps.toList
def Ce:ltCps b.cps.toList a.cps.toList=false↔xA a b:=by rw[ltCps_eq,decide_eq_false_iff_not];rfl
def vi (h:xA a b)(k:xA b c):xA a c:=by
 unfold xA at *;exact not_lt.mpr (le_trans (not_lt.mp h) (not_lt.mp k))
def FF (h:xA a b)(k:xA b a):a=b:=by
 have e:a.cps.toList=b.cps.toList:=le_antisymm (not_lt.mp h) (not_lt.mp k);obtain⟨a⟩:=a;obtain⟨b⟩:=b;have:a=b:=toList_inj.mp e;rw[this]
noncomputable def AY (x:Str):LS->LS
 |[]=>[x]
 |y::r=>if ltCps y.cps.toList x.cps.toList then y::AY x r else x::y::r
noncomputable def kI (l:LS):LS:=l.foldr AY []
theorem ot (x:Str):∀l,(AY x l).Perm (x::l)
 |[]=>List.Perm.refl _
 |y::r=>by
  unfold AY;split
  ·exact((ot x r).cons y).trans (List.Perm.swap x y r)
  ·exact List.Perm.refl _
theorem eA:∀l,(kI l).Perm l
 |[]=>List.Perm.refl _
 |x::l=>(ot x (kI l)).trans ((eA l).cons x)
theorem vj (x:Str):∀l,l.Pairwise xA->(AY x l).Pairwise xA
 |[],_=>by simp[AY]
 |y::r,h=>by
  obtain⟨h1,h2⟩:=pairwise_cons.mp h;unfold AY;split
  ·rename_i hl;refine pairwise_cons.mpr ⟨λz hz=>?_,vj x r h2⟩;rcases vP ((ot x r).mem_iff.mp hz)with rfl|hz
   ·rw[ltCps_eq,decide_eq_true_eq]at hl;exact λk=>lt_irrefl _ (lt_trans hl k)
   ·exact h1 z hz
  ·rename_i hl;rw[Bool.not_eq_true]at hl;have G:xA x y:=Ce.mp hl;refine pairwise_cons.mpr ⟨λz hz=>?_,h⟩;rcases vP hz with rfl|hz
   ·exact G
   ·exact vi G (h1 z hz)
theorem qU:∀l,(kI l).Pairwise xA
 |[]=>List.Pairwise.nil
 |x::l=>vj x _ (qU l)
theorem oW:∀(l:LS)(p:Str),risingS p l=true->(p::l).Pairwise xA
 |[],p,_=>List.pairwise_singleton _ _
 |x::r,p,h=>by
  have h':(!ltCps x.cps.toList p.cps.toList && risingS x r)=true:=h;rw[vC]at h';have G:xA p x:=Ce.mp (by simpa using h'.1);have M:=oW r x h'.2;refine pairwise_cons.mpr ⟨λz hz=>?_,M⟩;rcases vP hz with rfl|hz
  ·exact G
  ·exact vi G ((pairwise_cons.mp M).1 z hz)
theorem yW:∀(l:LS),sortedS l=true->l.Pairwise xA
 |[],_=>List.Pairwise.nil
 |x::r,h=>oW r x h
def yX (a:Str):xA a a:=lt_irrefl _
theorem qV:∀(l1 l2:LS),l1.Perm l2->l1.Pairwise xA->l2.Pairwise xA->l1=l2
 |[],l2,p,_,_=>(nil_perm.mp p).symm
 |x::O,[],p,_,_=>absurd p.length_eq (by simp)
 |x::O,y::T,p,h1,h2=>by
  have G:xA x y:=by
   rcases vP (p.mem_iff.mpr (mX ..))with z|z
   ·rw[z];exact yX _
   ·exact(pairwise_cons.mp h1).1 y z
  have M:xA y x:=by
   rcases vP (p.mem_iff.mp (mX ..))with z|z
   ·rw[z];exact yX _
   ·exact(pairwise_cons.mp h2).1 x z
  have e:=FF G M;subst e;rw[qV O T (List.Perm.cons_inv p) (pairwise_cons.mp h1).2 (pairwise_cons.mp h2).2]
def DE (p:l'.Perm l)(h:sortedS l'=true):l'=kI l:=qV _ _ (p.trans (eA l).symm) (yW _ h) (qU l)
section
variable {X:Cx}
noncomputable def yY (X:Cx)(S:Addr)(G:LS):HO:=.ext λh=>iN X.prog X.w h S G
def vk (I:Inv X ah σ H s)(k:∀b u,s.heap.get? b=some u->s1.heap.get? b=some u)(G:s1.os=s.os)(M:s1.gens=s.gens):Inv X ah σ H s1:=by
 have O:=I.step (g':=s.gens) (d':=s1.drawn) (t':=s1.toks) (h':=s1.heap) (H':=H) (ch:=[]) (λ_ z=>nomatch z) (λb o _ _ _ e _=>k b o e) (λb o _ _ _ e _=>⟨o.slots,k b o e⟩) (λ_ _ _ _ n=>n)
  (λb o _ e=>⟨o,k b o e⟩) (λ_ _ e=>e) (λ_ _ _ e=>e) (λ_ _ e=>e) (λm hm=>?_) (I.hok.kept k) I.bare
 ·obtain⟨h1,g1,d1,U,o1⟩:=s1;cases G;cases M
  exact O
 ·obtain⟨o,es,T,G,r⟩:=hm;exact⟨o,es,T,k _ o G,r⟩
def oZ (hc:X.calm=true):cA X (.type "set") (λxs H Q=>∃p ys ss,xs=[.ref p]/\iQ X.K H p ys/\(∀its,bu ys its->StrsAre its ss)/\ss.length<4000/\∀S,H S=none->Q (.ref S) (upd H S (yY X S (ge ss)))):=by
 intro ah s σ H xs us Q I r h;obtain⟨p,ys,ss,rfl,hq,hs,T,q⟩:=h;obtain⟨u,rfl,U⟩:=kg r;cases U
 obtain⟨its,r',pl,hz⟩:=I.list hq;have G:=hs its r';have M:its.length=ss.length:=by rw[←G.strs,vI]
 refine qR (I.ok.hd hc) pl.isList (by simpa using G) (by simp only[vH];unfold scanBound;omega) λh' tk O hk=>?_;refine⟨.ref s.heap.objs.size,_,I.laid (t':=tk) (λb u e=>hk b u (vX e) e) (vT _) ?_,rfl,q _ (I.hok.fresh (vT _))⟩;refine⟨O,?_,λh1 h2 z k=>z.at k⟩;obtain⟨o,_,_,_,ho,_⟩:=O;exact⟨o,ho⟩
def pU (hc:X.calm=true):cA X (.builtin "sorted") (λxs H Q=>∃S M,xs=[.ref S]/\H S=some (yY X S M)/\M.length<64/\∀l,H l=none->Q (.ref l) (upd H l (.lst ((kI M).map .str)))):=by
 intro ah s σ H xs us Q I r h;obtain⟨S,M,rfl,hS,O,q⟩:=h;obtain⟨u,rfl,rx⟩:=kg r;cases rx
 have hT:iN X.prog X.w s.heap S M:=(I.hok S _ hS).1;refine AX (I.ok.hd hc) hT O λs1 h' a out n ss' k1 ho hg k2 hp he T G U=>?_;have e:=DE G U;subst e;have I1:=vk I k1 ho hg;have hv:∀ {its:LU}{zs:LS},StrsAre its zs->bu (zs.map V.str) its:=λz=>by
  induction z with
  |nil=>exact .nil
  |cons x t _ ih=>exact .cons ⟨t,rfl⟩ ih
 refine⟨.ref a,_,I1.laid (t':=s1.toks) k2 hp (show bN X.prog X.w _ h' _ (.lst _)from ⟨?_,out.toList,n,hv T,he⟩),rfl,q _ (I1.hok.fresh hp)⟩;rw[vI,(eA M).length_eq,sizeLine_eq];omega
end
@[simp] def fN:D->OB
 |.lst ds=>(ki ds).bind λss=>if ss.length<64 then some (.lst ((kI (ge ss)).map .str),true)else none
 |_=>none
@[simp] def mV:D->OB
 |.lst ds=>(ki ds).bind λss=>if ss.length<4000 then some (.int ((ge ss).length:Nat),false)else none
 |_=>none
def yZ:bootBuiltins "sorted" = some (.builtin "sorted"):=by decide +kernel
def K6:bootBuiltins "set" = some (.type "set"):=by decide +kernel
theorem qW {K:Frag}{N:Hp}:∀(zs:LS),IsL K N (zs.map V.str) (zs.map D.str)
 |[]=>.nil
 |z::zs=>.cons (.str z) (qW zs)
section
variable {X:Cx}{e:Expr}{pos pos2 p p2:Pos}
def mn (hc:X.calm=true)(m1:X.mg "sorted" = none)(m2:X.mg "set" = none)(he:JE X e f)(g1:Gl X "sorted":=by rfl)(g2:Gl X "set":=by rfl)
  (h1:starEach [e] X.env=(false,eval e X.env)::starEach [] X.env:=by rfl):JE X (.Call (.Name "sorted" p) [.Call (.Name "set" p2) [e] [] pos2] [] pos) (f1 fN f):=by
 refine PE.to (qw (pU hc) g1 m1 yZ (gB (oj (oZ hc) g2 m2 K6 (gB he jf h1) (he:=h1)) jf)) λσ H Q q=>?_;obtain⟨B,ρ,d',bb,sB,r,G,q⟩:=q;obtain⟨T,ex,G⟩:=oX G;refine⟨B,ρ,T.1,T.2,sB,r,ex,λv H1 N1 O i1 fr=>?_⟩;obtain⟨xd,xb⟩:=T;cases i1<;>try (simp[fN]at G;done)
 rename_i l0 vs ds h hl;simp only[fN]at G;obtain⟨ss,ez,G⟩:=oX G;split at G
 ·rename_i U;cases G
  refine⟨_,_,ss,rfl,O.nh.seq h,λits r'=>mQ r' hl ez,by omega,λS hS=>⟨S,_,rfl,aC,lt_of_le_of_lt (mT ss) U,λl M=>?_⟩⟩;have x2:=Ext.laid (o:=yY X S (ge ss)) O.nh hS;have x3:=Ext.laid (o:=.lst ((kI (ge ss)).map V.str)) x2.nh M;have WC:H l=none:=((O.trans x2).hh).free M;exact q _ _ _ ((O.trans x2).trans x3) (.lst (iQ.of aC) (qW _)) λ_=>⟨_,_,_,rfl,rfl,WC,aC,qW _⟩
 ·cases G
end
end DL
namespace DL
open PySem PySem.Spec PySem.W PyProof.Rows
inductive Run (n:Nat)(lt:Nat->Nat->Bool){α:Type}:KasT α->α->Prop where
 |ret (a:α):Run n lt (.ret a) a
 |ask {i j:Nat}{k:Bool->KasT α}{a:α}(hi:i<n) (hj:j<n) (h:Run n lt (k (lt i j)) a):Run n lt (.ask i j k) a
def Run.bind {n:Nat}{lt:Nat->Nat->Bool}{α G:Type}{t:KasT α}{f:α->KasT G}{a:α}{b:G}(h:Run n lt t a)(k:Run n lt (f a) b):Run n lt (t.bind f) b:=by
 induction h with
 |ret a=>exact k
 |ask hi hj _ M=>exact .ask hi hj (M k)
def Run.wp {n:Nat}{lt:Nat->Nat->Bool}{α:Type}{G:Nat->Nat->(Bool->Shared->Prop)->Shared->Prop}{Q:α->Shared->Prop}{t:KasT α}{a:α}(J:Shared->Prop)
  (hc:∀i j C s,i<n->j<n->J s->(∀s',J s'->C (lt i j) s')->G i j C s) (h:Run n lt t a):∀ {s:Shared},J s->(∀s',J s'->Q a s')->t.kasWp G Q s:=by
 induction h with
 |ret a=>intro s M O;exact O s M
 |ask hi hj _ U=>intro s M O;exact hc _ _ _ _ hi hj M λs' T=>U T O
section
variable {n:Nat}{rk:Nat->Int}
noncomputable abbrev qX (rk:Nat->Int)(i j:Nat):Bool:=decide (rk i<rk j)
noncomputable def c7 (rk:Nat->Int)(p:Array Nat)(k:Nat):Int:=rk (p.getD k 0)
structure pZ (n:Nat)(p:Array Nat):Prop where
 size:p.size=n
 perm:p.toList.Perm (List.range n)
def pZ.lt {p:Array Nat}(h:pZ n p){k:Nat}(hk:k<n):p.getD k 0<n:=by
 have G:k<p.size:=by rw[h.size];exact hk
 have:p.getD k 0=p[k]:=by rw[getD_eq_getD_getElem?,getElem?_eq_getElem G];rfl
 rw[this];exact mem_range.mp (h.perm.mem_iff.mp (by simp))
def pZ.rev {p:Array Nat}(h:pZ n p)(i j:Nat):pZ n (kas_rev p i j) :=
 ⟨(mirror_size _ _ _ _).trans h.size,(Array.perm_iff_toList_perm.mp (mirror_perm p i j _)).trans h.perm⟩
def pZ.bub {p:Array Nat}(h:pZ n p)(k d:Nat):pZ n (bubble p k d) :=
 ⟨(bubble_size _ _ _).trans h.size,(Array.perm_iff_toList_perm.mp (bubble_perm p k d)).trans h.perm⟩
def xB {p:Array Nat}{i j:Nat}(hj:j<=p.size)(k:Nat):c7 rk (kas_rev p i j) k=if i<=k/\k<j then c7 rk p (i+j - 1 - k)else c7 rk p k:=by
 unfold c7 kas_rev;rw[getD_eq_getD_getElem?,getElem?_mirror_all hj];split<;>rw[getD_eq_getD_getElem?]
def FH {p:Array Nat}{G d:Nat}(hs:G<p.size)(hd:d<=G)(k:Nat):c7 rk (bubble p G d) k=if k=G - d then c7 rk p G else if G - d<k/\k<=G then c7 rk p (k - 1)else c7 rk p k:=by
 unfold c7;simp only[getD_eq_getD_getElem?];rw[getElem?_bubble hs d hd];repeat' split
 all_goals rfl
def Up (rk:Nat->Int)(p:Array Nat)(m:Nat):Prop:=∀i j,i<=j->j<m->c7 rk p i<=c7 rk p j
def xC (rk:Nat->Int)(p:Array Nat)(m:Nat):Prop:=∀i j,i<=j->j<m->c7 rk p j<=c7 rk p i
def Mm (p:Array Nat):Up rk p 1:=λi j h1 h2=>by
 have:i=j:=by omega
 subst this;exact le_refl _
theorem xD {p:Array Nat}(h:pZ n p){r:Nat}(hr:r<=n):∀(f m:Nat),r - m=f->1<=m->m<=r->Up rk p m->∃G,Run n (qX rk) (kas_asc p f m) G/\m<=G/\G<=r/\Up rk p G/\(G<r->c7 rk p G<c7 rk p (G - 1))
 |0,m,hf,h1,hm,hu=>⟨m,.ret m,vT _,hm,hu,λz=>by omega⟩
 |f+1,m,hf,h1,hm,hu=>by
  have T:=h.lt (k:=m) (by omega);have U:=h.lt (k:=m - 1) (by omega);by_cases hc:c7 rk p m<c7 rk p (m - 1)
  ·refine⟨m,.ask T U ?_,vT _,hm,hu,λ_=>hc⟩;have:qX rk (p.getD m 0) (p.getD (m - 1) 0)=true:=Au hc;rw[this,if_pos rfl];exact .ret m
  ·have M:Up rk p (m+1):=λi j O hj=>by
    by_cases e:j=m
    ·subst e;by_cases e2:i=j
     ·subst e2;exact le_refl _
     ·have:=hu i (j - 1) (by omega) (by omega);omega
    ·exact hu i j O (by omega)
   obtain⟨G,q1,q2,q3,q4,q5⟩:=xD h hr f (m+1) (by omega) (by omega) (by omega) M;refine⟨G,.ask T U ?_,by omega,q3,q4,q5⟩;have:qX rk (p.getD m 0) (p.getD (m - 1) 0)=false:=Pz hc;rw[this,if_neg uX];exact q1
def IN (rk:Nat->Int)(p:Array Nat)(m q:Nat):Prop:=q+1<=m/\∀k,m - (q+1)<=k->k<m->c7 rk p k=c7 rk p (m - 1)
def za {p:Array Nat}{m q:Nat}(hs:m<=p.size)(hf:IN rk p m q)(k:Nat):c7 rk (kas_rev p (m - (q+1)) m) k=c7 rk p k:=by
 rw[xB hs];split
 ·rename_i hk;have h0:=hf.1;rw[hf.2 k hk.1 hk.2,hf.2 _ (by omega) (by omega)]
 ·rfl
def Cf {p G:Array Nat}{m:Nat}(e:∀k,c7 rk G k=c7 rk p k)(h:xC rk p m):xC rk G m:=λi j h1 h2=>by rw[e,e];exact h i j h1 h2
def qY (p:Array Nat){m:Nat}(h:1<=m):IN rk p m 0:=⟨h,λk h1 h2=>by
 have:k=m - 1:=by omega
 rw[this]⟩
theorem mW {r:Nat}(hr:r<=n):∀(f:Nat)(p:Array Nat)(m q:Nat),pZ n p->r - m=f->1<=m->m<=r->xC rk p m->IN rk p m q->∃G M U,Run n (qX rk) (kas_desc f p m q) (G,M,U)/\pZ n G/\m<=M/\M<=r/\xC rk G M/\IN rk G M U
 |0,p,m,q,h,hf,h1,hm,hd,hq=>⟨p,m,q,.ret _,h,vT _,hm,hd,hq⟩
 |f+1,p,m,q,h,hf,h1,hm,hd,hq=>by
  have a1:=h.lt (k:=m) (by omega);have a2:=h.lt (k:=m - 1) (by omega);have step:∀G:Array Nat,(∀k,c7 rk G k=c7 rk p k)->c7 rk p m<=c7 rk p (m - 1)->xC rk G (m+1):=λG e Kl i j hij hj=>by
   rw[e,e];by_cases z:j=m
   ·subst z;by_cases z2:i=j
    ·subst z2;exact le_refl _
    ·have:=hd i (j - 1) (by omega) (by omega);omega
   ·exact hd i j hij (by omega)
  by_cases hc:c7 rk p m<c7 rk p (m - 1)
  ·have O:qX rk (p.getD m 0) (p.getD (m - 1) 0)=true:=Au hc;by_cases hq0:q > 0
   ·have e:=za (p:=p) (by rw[h.size];omega) hq;obtain⟨G,M,U,g1,g2,g3,g4,g5,g6⟩:=mW hr f (kas_rev p (m - (q+1)) m) (m+1) 0 (h.rev _ _) (by omega) (by omega) (by omega) (step _ e (by omega)) (qY _ (by omega));refine⟨G,M,U,.ask a1 a2 ?_,g2,by omega,g4,g5,g6⟩;rw[O,if_pos rfl,if_pos hq0];exact g1
   ·obtain⟨G,M,U,g1,g2,g3,g4,g5,g6⟩:=mW hr f p (m+1) 0 h (by omega) (by omega) (by omega) (step _ (λ_=>rfl) (by omega)) (qY _ (by omega));refine⟨G,M,U,.ask a1 a2 ?_,g2,by omega,g4,g5,g6⟩;rw[O,if_pos rfl,if_neg hq0];exact g1
  ·have O:qX rk (p.getD m 0) (p.getD (m - 1) 0)=false:=Pz hc;by_cases KW:c7 rk p (m - 1)<c7 rk p m
   ·have T:qX rk (p.getD (m - 1) 0) (p.getD m 0)=true:=Au KW;refine⟨p,m,q,.ask a1 a2 ?_,h,vT _,hm,hd,hq⟩;rw[O,if_neg uX];refine .ask a2 a1 ?_;rw[T,if_pos rfl];exact .ret _
   ·have T:qX rk (p.getD (m - 1) 0) (p.getD m 0)=false:=Pz KW;have he:c7 rk p m=c7 rk p (m - 1):=by omega
    obtain⟨G,M,U,g1,g2,g3,g4,g5,g6⟩:=mW hr f p (m+1) (q+1) h (by omega) (by omega) (by omega) (step _ (λ_=>rfl) (by omega)) ⟨by have:=hq.1;omega,λk k1 k2=>by
     rw[Nat.add_sub_cancel];by_cases z:k=m
     ·rw[z]
     ·rw[hq.2 k (by omega) (by omega),he]⟩
    refine⟨G,M,U,.ask a1 a2 ?_,g2,by omega,g4,g5,g6⟩;rw[O,if_neg uX];refine .ask a2 a1 ?_;rw[T,if_neg uX];exact g1
def zb {r:Nat}(O:r<=n){p:Array Nat}(h:pZ n p){m:Nat}(h1:1<=m)(hm:m<=r)(hd:xC rk p m):∃G M,Run n (qX rk) (kas_tail3 m r p) (G,M)/\pZ n M/\1<=G/\G<=r/\Up rk M G:=by
 have hu:Up rk (kas_rev p 0 m) m:=λi j T hj=>by
  rw[xB (by rw[h.size];omega),xB (by rw[h.size];omega),if_pos (by omega),if_pos (by omega)];exact hd _ _ (by omega) (by omega)
 obtain⟨G,U,q2,q3,q4,_⟩:=xD (h.rev 0 m) O (r - m) m rfl h1 hm hu;exact⟨G,_,U.bind (.ret _),h.rev 0 m,by omega,q3,q4⟩
def zc {r:Nat}(O:r<=n){p:Array Nat}(h:pZ n p){m:Nat}(hm:m+1<=r)(hd:xC rk p (m+1)):∃G M,Run n (qX rk) (kas_descPart m r p) (G,M)/\pZ n M/\1<=G/\G<=r/\Up rk M G:=by
 obtain⟨p1,m1,U,g1,T,g3,g4,g5,g6⟩:=mW O (r - (m+1)) p (m+1) 0 h rfl (by omega) hm hd (qY _ (by omega));by_cases hq:U > 0
 ·obtain⟨G,M,k1,k2,k3,k4,k5⟩:=zb O (T.rev (m1 - (U+1)) m1) (m:=m1) (by omega) g4 (Cf (za (by rw[T.size];omega) g6) g5);exact⟨G,M,g1.bind (by dsimp only;rw[if_pos hq];exact k1),k2,k3,k4,k5⟩
 ·obtain⟨G,M,k1,k2,k3,k4,k5⟩:=zb O T (m:=m1) (by omega) g4 g5;exact⟨G,M,g1.bind (by dsimp only;rw[if_neg hq];exact k1),k2,k3,k4,k5⟩
def DF {p:Array Nat}(h:pZ n p)(hn:1<=n):∃M O,Run n (qX rk) (kas_count n p) (M,O)/\pZ n O/\1<=M/\M<=n/\Up rk O M:=by
 obtain⟨m,q1,q2,q3,q4,q5⟩:=xD h (vT n) (n - 1) 1 rfl (vT 1) hn (Mm (rk:=rk) p);by_cases e:m=n
 ·exact⟨m,p,q1.bind (by rw[if_pos (by simp[e])];exact .ret _),h,q2,q3,q4⟩
 ·have U:=q5 (by omega);have e1:¬(m == n)=true:=by simp[e]
  by_cases T:m > 1
  ·by_cases hc:c7 rk p 0<c7 rk p (m - 1)
   ·refine⟨m,p,q1.bind ?_,h,q2,q3,q4⟩;rw[if_neg e1,if_pos T];refine .ask (h.lt (by omega)) (h.lt (by omega)) ?_;have:qX rk (p.getD 0 0) (p.getD (m - 1) 0)=true:=Au hc;rw[this,if_pos rfl];exact .ret _
   ·have G:∀k,k<m->c7 rk p k=c7 rk p 0:=λk hk=>by
     have z1:=q4 0 k (by omega) hk;have z2:=q4 k (m - 1) (by omega) (by omega);omega
    have er:∀k,c7 rk (kas_rev p 0 m) k=c7 rk p k:=λk=>by
     rw[xB (by rw[h.size];omega)];split
     ·rename_i z;rw[G _ (by omega),G k z.2]
     ·rfl
    have hd:xC rk p (m+1):=λi j hij hj=>by
     by_cases z:j=m
     ·subst z;by_cases z2:i=j
      ·subst z2;exact le_refl _
      ·rw[G i (by omega)];rw[G (j - 1) (by omega)]at U;omega
     ·rw[G i (by omega),G j (by omega)];exact le_refl _
    obtain⟨M,O,k1,k2,k3,k4,k5⟩:=zc (vT n) (h.rev 0 m) (m:=m) (by omega) (Cf er hd);refine⟨M,O,q1.bind ?_,k2,k3,k4,k5⟩;rw[if_neg e1,if_pos T];refine .ask (h.lt (by omega)) (h.lt (by omega)) ?_;have:qX rk (p.getD 0 0) (p.getD (m - 1) 0)=false:=Pz hc;rw[this,if_neg uX];exact k1
  ·have em:m=1:=by omega
   subst em;have hd:xC rk p 2:=λi j hij hj=>by
    by_cases z2:i=j
    ·subst z2;exact le_refl _
    ·have:i=0:=by omega
     have:j=1:=by omega
     subst_vars;have:=U;simp at this;omega
   obtain⟨M,O,k1,k2,k3,k4,k5⟩:=zc (vT n) h (m:=1) (by omega) hd;refine⟨M,O,q1.bind ?_,k2,k3,k4,k5⟩;rw[if_neg e1,if_neg T];exact k1
theorem ou {p:Array Nat}(h:pZ n p){k:Nat}(hk:k<n)(hu:Up rk p k):∀(f l r:Nat),r - l<=f->l<=r->r<=k->(∀i,i<l->c7 rk p i<=c7 rk p k)->(∀i,r<=i->i<k->c7 rk p k<c7 rk p i) ->
  ∃G,Run n (qX rk) (kas_place p k f l r) G/\G<=k/\(∀i,i<G->c7 rk p i<=c7 rk p k)/\(∀i,G<=i->i<k->c7 rk p k<c7 rk p i)
 |0,l,r,hf,hl,hr,h1,h2=>⟨l,.ret l,by omega,h1,λi a b=>h2 i (by omega) b⟩
 |f+1,l,r,hf,hl,hr,h1,h2=>by
  by_cases M:l ≥ r
  ·refine⟨l,?_,by omega,h1,λi a b=>h2 i (by omega) b⟩;unfold kas_place;rw[if_pos M];exact .ret l
  ·by_cases hc:c7 rk p k<c7 rk p ((l+r) / 2)
   ·obtain⟨G,O,T,U,q4⟩:=ou h hk hu f l ((l+r) / 2) (by omega) (by omega) (by omega) h1 λi a b=>by
     have:=hu ((l+r) / 2) i a b;omega
    refine⟨G,?_,T,U,q4⟩;unfold kas_place;rw[if_neg M];refine .ask (h.lt (by omega)) (h.lt (by omega)) ?_;have:qX rk (p.getD k 0) (p.getD ((l+r) / 2) 0)=true:=Au hc;rw[this,if_pos rfl];exact O
   ·obtain⟨G,O,T,U,q4⟩:=ou h hk hu f ((l+r) / 2+1) r (by omega) (by omega) hr (λi a=>by
     have:=hu i ((l+r) / 2) (by omega) (by omega);omega) h2
    refine⟨G,?_,T,U,q4⟩;unfold kas_place;rw[if_neg M];refine .ask (h.lt (by omega)) (h.lt (by omega)) ?_;have:qX rk (p.getD k 0) (p.getD ((l+r) / 2) 0)=false:=Pz hc;rw[this,if_neg uX];exact O
theorem Cg:∀(f:Nat)(p:Array Nat)(k:Nat),pZ n p->n - k=f->k<=n->Up rk p k->∃G,Run n (qX rk) (kas_bin f p k) G/\pZ n G/\Up rk G n
 |0,p,k,h,hf,hk,hu=>⟨p,.ret p,h,(show k=n by omega) ▸ hu⟩
 |f+1,p,k,h,hf,hk,hu=>by
  have M:k<n:=by omega
  obtain⟨l,q1,q2,q3,q4⟩:=ou h M hu k 0 k (by omega) (by omega) (vT _) (λi z=>by omega) (λi a b=>by omega);have hsz:k<p.size:=by rw[h.size];exact M
  have T:Up rk (bubble p k (k - l)) (k+1):=λi j U hj=>by
   rw[FH hsz (by omega),FH hsz (by omega)];have e:k - (k - l)=l:=by omega
   rw[e];by_cases i1:i=l
   ·rw[if_pos i1];by_cases O:j=l
    ·rw[if_pos O];exact le_refl _
    ·rw[if_neg O,if_pos (by omega)];have:=q4 (j - 1) (by omega) (by omega);omega
   ·rw[if_neg i1];by_cases i2:l<i/\i<=k
    ·rw[if_pos i2,if_neg (by omega),if_pos (by omega)];exact hu _ _ (by omega) (by omega)
    ·rw[if_neg i2];by_cases O:j=l
     ·rw[if_pos O];exact q3 i (by omega)
     ·rw[if_neg O];by_cases j2:l<j/\j<=k
      ·rw[if_pos j2];exact hu _ _ (by omega) (by omega)
      ·rw[if_neg j2];exact hu _ _ U (by omega)
  obtain⟨G,k1,k2,k3⟩:=Cg f (bubble p k (k - l)) (k+1) (h.bub _ _) (by omega) (by omega) T;exact⟨G,q1.bind k1,k2,k3⟩
def FI (hn:1<=n):∃p,Run n (qX rk) (kas_sort n) p/\pZ n p/\Up rk p n:=by
 have h0:pZ n (List.toArray (List.range n)):=⟨by simp,by simp⟩;obtain⟨m,p,M,O,q3,q4,T⟩:=DF (rk:=rk) h0 hn;by_cases e:m<n
 ·have G:max m 1=m:=by omega
  obtain⟨U,k1,k2,k3⟩:=Cg (n - max m 1) p (max m 1) O rfl (by omega) (by rw[G];exact T);exact⟨U,M.bind (by dsimp only;rw[if_pos e];exact k1),k2,k3⟩
 ·have:m=n:=by omega
  subst this;exact⟨p,M.bind (by dsimp only;rw[if_neg e];exact .ret _),O,T⟩
end
def lw {a b c:LI}(h:a<b)(k:b<c):a<c:=lt_trans h k
def DG {a b c:LI}(h:¬b<a)(k:¬c<b):¬c<a:=not_lt.mpr (le_trans (not_lt.mp h) (not_lt.mp k))
def FJ {a b:LI}(h:¬b<a)(k:¬a<b):a=b:=le_antisymm (not_lt.mp h) (not_lt.mp k)
section
variable {α:Type}(f:α->LI)
def HB (a b:α):Prop:=¬f b<f a
noncomputable def oy (x:α):List α->List α
 |[]=>[x]
 |y::r=>if f y<f x then y::oy x r else x::y::r
noncomputable def eU (l:List α):List α:=l.foldr (oy f) []
theorem o0 (x:α):∀l,(oy f x l).Perm (x::l)
 |[]=>List.Perm.refl _
 |y::r=>by
  unfold oy;split
  ·exact((o0 x r).cons y).trans (List.Perm.swap x y r)
  ·exact List.Perm.refl _
theorem bF:∀l,(eU f l).Perm l
 |[]=>List.Perm.refl _
 |x::l=>(o0 f x (eU f l)).trans ((bF l).cons x)
theorem vn (x:α):∀l,l.Pairwise (HB f)->(oy f x l).Pairwise (HB f)
 |[],_=>by simp[oy]
 |y::r,h=>by
  obtain⟨h1,h2⟩:=pairwise_cons.mp h;unfold oy;split
  ·rename_i hl;refine pairwise_cons.mpr ⟨λz hz=>?_,vn x r h2⟩;rcases vP ((o0 f x r).mem_iff.mp hz)with rfl|hz
   ·exact λk=>lt_irrefl _ (lw hl k)
   ·exact h1 z hz
  ·rename_i hl;refine pairwise_cons.mpr ⟨λz hz=>?_,h⟩;rcases vP hz with rfl|hz
   ·exact hl
   ·exact DG hl (h1 z hz)
theorem iq:∀l,(eU f l).Pairwise (HB f)
 |[]=>List.Pairwise.nil
 |x::l=>vn f x _ (iq l)
theorem vp:∀(l1 l2:List α),(∀x∈l1,∀y∈l1,f x=f y->x=y)->l1.Perm l2->l1.Pairwise (HB f)->l2.Pairwise (HB f)->l1=l2
 |[],l2,_,p,_,_=>(nil_perm.mp p).symm
 |x::G,[],_,p,_,_=>absurd p.length_eq (by simp)
 |x::G,y::T,hi,p,h1,h2=>by
  have hy:y∈x::G:=p.mem_iff.mpr (mX ..);have M:HB f x y:=by
   rcases vP hy with z|z
   ·rw[z];exact lt_irrefl _
   ·exact(pairwise_cons.mp h1).1 y z
  have O:HB f y x:=by
   rcases vP (p.mem_iff.mp (mX ..))with z|z
   ·rw[z];exact lt_irrefl _
   ·exact(pairwise_cons.mp h2).1 x z
  have e:x=y:=hi x (mX ..) y hy (FJ M O);subst e;rw[vp G T (λa ha b hb=>hi a (mZ _ ha) b (mZ _ hb)) (List.Perm.cons_inv p) (pairwise_cons.mp h1).2 (pairwise_cons.mp h2).2]
theorem kJ (hi:∀x∈l,∀y∈l,f x=f y->x=y)(p:l'.Perm l)(h:l'.Pairwise (HB f)):l'=eU f l :=
 vp f _ _ (λx hx y hy=>hi x (p.mem_iff.mp hx) y (p.mem_iff.mp hy)) (p.trans (bF f l).symm) h (iq f l)
end
theorem mo {α:Type}{p q:α->Bool}(h:∀x,p x=true->q x=true):∀l:List α,(l.filter p).length<=(l.filter q).length
 |[]=>vT _
 |x::l=>by
  have G:=mo h l;rw[filter_cons,filter_cons];by_cases z:p x=true
  ·rw[if_pos z,if_pos (h x z)];simp only[vE];omega
  ·rw[if_neg z];split
   ·simp only[vE];omega
   ·exact G
noncomputable def nc (cs:List LI)(c:LI):Int:=((cs.filter λx=>decide (x<c)).length:Nat)
def IP {cs:List LI}{a b:LI}(h:¬b<a):nc cs a<=nc cs b:=by
 unfold nc;refine Int.ofNat_le.mpr (mo (λx hx=>?_) cs);rw[decide_eq_true_eq]at hx ⊢;rcases List.le_iff_lt_or_eq.mp (not_lt.mp h)with z|z
 ·exact lw hx z
 ·rw[←z];exact hx
def Ch {cs:List LI}{a b:LI}(ha:a∈cs)(h:a<b):nc cs a<nc cs b:=by
 unfold nc;apply Int.ofNat_lt.mpr;induction cs with
 |nil=>simp at ha
 |cons c cs M=>
  have G:∀l:List LI,(l.filter λx=>decide (x<a)).length<=(l.filter λx=>decide (x<b)).length:=λl=>
   mo (λx hx=>by rw[decide_eq_true_eq]at hx ⊢;exact lw hx h) l
  rw[filter_cons,filter_cons];rcases vP ha with rfl|ha
  ·rw[if_neg (by simp[lt_irrefl]),if_pos (by simpa using h)];have:=G cs;simp only[vE];omega
  ·have:=M ha;by_cases z:c<a
   ·rw[if_pos (by simpa using z),if_pos (by simpa using lw z h)];simp only[vE];omega
   ·rw[if_neg (by simpa using z)];split
    ·simp only[vE];omega
    ·exact this
def zd (ha:a∈cs):decide (nc cs a<nc cs b)=decide (a<b):=by
 by_cases h:a<b
 ·rw[Au h,Au (Ch ha h)]
 ·rw[Pz h,Pz];have:=IP (cs:=cs) h;omega
inductive At where
 |i (n:Int)
 |s (z:Str)
noncomputable def Mn:At->LI
 |.i n=>[n]
 |.s z=>z.cps.toList.map (λ(c:Nat)=>(c:Int)+1)++[0]
noncomputable def cM (xs:List At):LI:=xs.flatMap Mn
noncomputable def bp:List At->List At->Option Bool
 |[],ys=>some (!ys.isEmpty)
 |_::_,[]=>some false
 |.i a::xs,.i b::ys=>if a=b then bp xs ys else some (decide (a<b))
 |.s a::xs,.s b::ys=>if a=b then bp xs ys else some (decide (a.cps.toList<b.cps.toList))
 |_::_,_::_=>none
theorem xE:∀(a b:LN)(r G:LI),(a.map (λ(c:Nat)=>(c:Int)+1)++0::r)<(b.map (λ(c:Nat)=>(c:Int)+1)++0::G)↔a<b∨(a=b/\r<G)
 |[],[],r,G=>by simp[cons_lt_cons_iff]
 |[],y::b,r,G=>by simp[cons_lt_cons_iff]
 |x::a,[],r,G=>by simp[cons_lt_cons_iff];omega
 |x::a,y::b,r,G=>by
  rw[uY,uY,cons_append,cons_append,cons_lt_cons_iff,xE a b r G,cons_lt_cons_iff];constructor
  ·rintro (h|⟨h,k|⟨k1,k2⟩⟩)
   ·exact .inl (.inl (by omega))
   ·exact .inl (.inr ⟨by omega,k⟩)
   ·exact .inr ⟨by rw[k1,show x=y by omega],k2⟩
  ·rintro ((h|⟨h,k⟩)|⟨h,k⟩)
   ·exact .inl (by omega)
   ·exact .inr ⟨by omega,.inl k⟩
   ·injection h with h1 h2;exact .inr ⟨by omega,.inr ⟨h2,k⟩⟩
def j6 (x:At)(xs:List At):cM (x::xs)=Mn x++cM xs:=by unfold cM;rw[flatMap_cons]
def Mo (x:At):Mn x≠[]:=by cases x<;>simp[Mn]
def Ci {a b:Str}:a.cps.toList=b.cps.toList↔a=b:=by
 constructor
 ·intro h;obtain⟨a⟩:=a;obtain⟨b⟩:=b;have:a=b:=toList_inj.mp h;rw[this]
 ·rintro rfl;rfl
theorem xF:∀(xs ys:List At)(b:Bool),bp xs ys=some b->b=decide (cM xs<cM ys)
 |[],[],b,h=>by simp[bp]at h;subst h;simp[cM]
 |[],y::ys,b,h=>by
  simp[bp]at h;subst h;rw[j6];cases e:Mn y with
  |nil=>exact absurd e (Mo y)
  |cons c cs=>simp[cM]
 |x::xs,[],b,h=>by simp[bp]at h;subst h;simp[cM]
 |.i a::xs,.i c::ys,b,h=>by
  rw[bp]at h;rw[j6,j6];show b=decide (a::cM xs<c::cM ys);split at h
  ·rename_i e;subst e;rw[xF xs ys b h];exact decide_eq_decide.mpr (by rw[cons_lt_cons_iff];simp)
  ·rename_i e;cases h
   exact decide_eq_decide.mpr (by rw[cons_lt_cons_iff];simp[e])
 |.s a::xs,.s c::ys,b,h=>by
  rw[bp]at h;rw[j6,j6];have G:∀(z:Str)(r:LI),Mn (.s z)++r=z.cps.toList.map (λ(c:Nat)=>(c:Int)+1)++0::r:=λz r=>by simp[Mn]
  rw[G,G];split at h
  ·rename_i e;subst e;rw[xF xs ys b h];exact decide_eq_decide.mpr (by rw[xE];exact⟨λz=>.inr ⟨rfl,z⟩,λz=>z.elim (λq=>absurd q (lt_irrefl _)) (·.2)⟩)
  ·rename_i e;cases h
   exact decide_eq_decide.mpr (by rw[xE,Ci];exact⟨.inl,λz=>z.elim id λq=>absurd q.1 e⟩)
 |.i _::_,.s _::_,b,h=>by simp[bp]at h
 |.s _::_,.i _::_,b,h=>by simp[bp]at h
theorem AZ:∀(xs ys:List At),bp xs ys=some false->bp ys xs=some false->xs=ys
 |[],[],_,_=>rfl
 |[],y::ys,h,_=>by simp[bp]at h
 |x::xs,[],_,h=>by simp[bp]at h
 |.i a::xs,.i c::ys,h,k=>by
  rw[bp]at h k;by_cases e:a=c
  ·subst e;rw[if_pos rfl]at h k;rw[AZ xs ys h k]
  ·rw[if_neg e]at h;rw[if_neg (Ne.symm e)]at k;simp at h k;omega
 |.s a::xs,.s c::ys,h,k=>by
  rw[bp]at h k;by_cases e:a=c
  ·subst e;rw[if_pos rfl]at h k;rw[AZ xs ys h k]
  ·rw[if_neg e]at h;rw[if_neg (Ne.symm e)]at k;simp only[Option.some.injEq,decide_eq_false_iff_not]at h k;exact absurd (Ci.mp (le_antisymm (not_lt.mp k) (not_lt.mp h))) e
 |.i _::_,.s _::_,h,_=>by simp[bp]at h
 |.s _::_,.i _::_,h,_=>by simp[bp]at h
noncomputable def eV (ks:List (List At)):Bool:=ks.all λx=>ks.all λy=>(bp x y).isSome
def hV (h:eV ks=true)(hx:x∈ks)(hy:y∈ks):bp x y=some (decide (cM x<cM y)):=by
 have:=uR (uR h x hx) y hy;obtain⟨b,e⟩:=uU this;rw[e,xF _ _ _ e]
def o5 (h:eV ks=true)(hx:x∈ks)(hy:y∈ks)(e:cM x=cM y):x=y:=by
 refine AZ _ _ ?_ ?_
 ·rw[hV h hx hy,e,Pz (lt_irrefl _)]
 ·rw[hV h hy hx,e,Pz (lt_irrefl _)]
def Ay:At->Value->Prop
 |.i n,v=>∃t,v=.int n t
 |.s z,v=>∃t,v=.str z t
def ir (h:Heap)(xs:List At)(v:Value):Prop:=∃a o its n,v=.ref a/\h.get? a=some o/\o.cls=.type "tuple"/\o.data=.seq its n/\Paired Ay xs its.toList
noncomputable def fO (ks:List (List At)):Bool:=ks.all (λx=>match x with|.i _::_=>true|_=>false) || ks.all (λx=>match x with|.s _::_=>true|_=>false)
section
variable {prog:Program}{w:World}{A:Around}{E:QV}{s:Shared}
theorem qZ:∀(xs ys:List At)(its G:LU)(i:Nat),Paired Ay xs its->Paired Ay ys G->bp xs ys=some b->jv=decide (xs.length<ys.length)->Q b s->KatLex prog w A true jv Q (its.zip G) i s
 |[],ys,_,G,i,.nil,T,h,hf,q=>by
  rw[List.zip_nil_left];refine kat_nil ?_;cases ys with
  |nil=>simp[bp]at h;subst h;rw[hf];exact q
  |cons y ys=>simp[bp]at h;subst h;rw[hf];simpa using q
 |x::xs,[],_,_,i,_,.nil,h,hf,q=>by
  rw[List.zip_nil_right];refine kat_nil ?_;simp[bp]at h;subst h;rw[hf];simpa using q
 |.i a::xs,.i c::ys,_,_,i,.cons U M,.cons T O,h,hf,q=>by
  obtain⟨t,rfl⟩:=U;obtain⟨u,rfl⟩:=T;rw[zip_cons_cons];refine kat_cons (wpAny_eqBool_int ?_);rw[bp]at h;by_cases e:a=c
  ·rw[if_pos e]at h;rw[show(a == c)=true by simp[e]];exact kat_yes (qZ xs ys _ _ (i+1) M O h (by rw[hf];simp) q)
  ·rw[if_neg e]at h;cases h
   rw[show(a == c)=false by simp[e]];refine kat_no ?_;cases hb:(true && i == 0) with
   |true=>exact oneLt_int q
   |false=>exact kat_one _ _ (PyProof.Rows.lt_int q)
 |.s a::xs,.s c::ys,_,_,i,.cons U M,.cons T O,h,hf,q=>by
  obtain⟨t,rfl⟩:=U;obtain⟨u,rfl⟩:=T;rw[zip_cons_cons];refine kat_cons (wpAny_eqBool_str ?_);rw[bp]at h;by_cases e:a=c
  ·rw[if_pos e]at h;rw[Au e];exact kat_yes (qZ xs ys _ _ (i+1) M O h (by rw[hf];simp) q)
  ·rw[if_neg e]at h;cases h
   rw[Pz e];refine kat_no ?_;cases hb:(true && i == 0) with
   |true=>exact oneLt_str q
   |false=>exact kat_one _ _ (PySem.P.lt_str q)
 |.i _::_,.s _::_,_,_,_,_,_,h,_,_=>by simp[bp]at h
 |.s _::_,.i _::_,_,_,_,_,_,h,_,_=>by simp[bp]at h
theorem gf {α O:Type}{F:α->O->Prop}:∀ {G:List α}{M:List O},Paired F G M->G.length=M.length
 |_,_,.nil=>rfl
 |_,_,.cons _ t=>by simp[gf t]
def Mp {Q:Bool->Shared->Prop}{xs ys:List At}{x y:Value}{b:Bool}(hx:ir s.heap xs x)(hy:ir s.heap ys y)(h:bp xs ys=some b)(q:Q b s):wpAny (model prog w) A (keyLt' (tuples' true) x y) Q E s:=by
 obtain⟨a,o,its,n,rfl,T,_,hd,r⟩:=hx;obtain⟨U,o',its',n',rfl,G,_,M,O⟩:=hy;refine kat_lt T hd G M (qZ xs ys _ _ 0 r O h ?_ q);rw[←vG,←vG,gf r,gf O]
theorem pe:∀ {ks:List (List At)}{vs:LU},Paired (ir h) ks vs->(∀k∈ks,k≠[])->∃fs,KatTups h vs fs/\fs.length=ks.length/\∀v∈fs,∃k r,(k::r)∈ks/\Ay k v
 |_,_,.nil,_=>⟨[],trivial,rfl,by simp⟩
 |k::ks,_,.cons x t,G=>by
  obtain⟨fs,h1,h2,h3⟩:=pe t λz hz=>G z (mZ _ hz);obtain⟨a,o,its,n,rfl,T,hc,hd,r⟩:=x;cases M:its.toList with
  |nil=>
   rw[M]at r;cases r
   exact absurd rfl (G [] (mX ..))
  |cons v vs=>
   rw[M]at r;obtain⟨p,O⟩:∃p,its[0]? = some v:=⟨(),by rw[←getElem?_toList,M];rfl⟩;cases r with
   |cons q qs=>
    rename_i k0 U;refine⟨v::fs,KatTups.cons T hc hd O h1,by simp[h2],λu hu=>?_⟩;rcases vP hu with rfl|hu
    ·exact⟨k0,U,mX ..,q⟩
    ·obtain⟨k1,O,m1,m2⟩:=h3 u hu;exact⟨k1,O,mZ _ m1,m2⟩
def FK (hp:Paired (ir s.heap) ks vs)(hf:fO ks=true)(hn:0<ks.length)(q:Q (tuples' true) s):wpAny (model prog w) A (keyKind' vs.toArray) Q E s:=by
 have G:∀k∈ks,k≠[]:=λk hk z=>by
  subst z;unfold fO at hf;rw[Bool.or_eq_true]at hf;rcases hf with hf|hf
  ·have:=uR hf [] hk;simp at this
  ·have:=uR hf [] hk;simp at this
 obtain⟨fs,h1,h2,h3⟩:=pe hp G;unfold fO at hf;rw[Bool.or_eq_true]at hf;rcases hf with hf|hf
 ·refine kat_kind (T:=.type "int") h1 (by omega) (λv hv=>?_) (by decide) q;obtain⟨k,r,m,z⟩:=h3 v hv;have:=uR hf _ m;cases k with
  |i n=>obtain⟨t,rfl⟩:=z;exact .now
  |s M=>simp at this
 ·refine kat_kind (T:=.type "str") h1 (by omega) (λv hv=>?_) (by decide) q;obtain⟨k,r,m,z⟩:=h3 v hv;have:=uR hf _ m;cases k with
  |s M=>obtain⟨t,rfl⟩:=z;exact .now
  |i n=>simp at this
end
section
variable {prog:Program}{w:World}{A:Around}{E:QV}{s:Shared}
theorem fD {α O:Type}{F:α->O->Prop}(d:α)(e:O):∀ {G:List α}{M:List O},Paired F G M->∀ {i:Nat},i<G.length->F (G.getD i d) (M.getD i e)
 |_,_,.cons r t,0,_=>r
 |_,_,.cons r t,i+1,h=>by
  simp only[getD_cons_succ];exact fD d e t (by simpa using h)
 |_,_,.nil,i,h=>by simp at h
def HC (ks:List (List At))(i:Nat):Int:=nc (ks.map cM) (cM (ks.getD i []))
def IQ {ks:List (List At)}{vs:LU}(hc:eV ks=true)(hp:Paired (ir s.heap) ks vs):∀(i j:Nat)(C:Bool->Shared->Prop)(s1:Shared),i<ks.length->j<ks.length->s1=s->(∀s',s'=s->C (qX (HC ks) i j) s')->kas_ask prog w A (tuples' true) vs i j C s1:=by
 intro i j C s1 hi hj e M;subst e;unfold kas_ask;have G:ks.getD i []∈ks:=by rw[vF,vU hi];exact getElem_mem hi
 have O:ks.getD j []∈ks:=by rw[vF,vU hj];exact getElem_mem hj
 refine Mp (fD [] Value.none hp hi) (fD [] Value.none hp hj) (hV hc G O) ?_;have:=M s1 rfl;unfold qX HC at this;rw[zd (uS ⟨_,G,rfl⟩)]at this;exact this
end
end DL
namespace DL
open PySem PySem.Spec PySem.W PyProof.Rows L2
noncomputable def K7:D->Option At
 |.int n=>some (.i n)
 |.str z=>some (.s z)
 |_=>none
def jR:LD->Option (List At)
 |[]=>some []
 |d::ds=>(K7 d).bind λa=>(jR ds).map (a :: ·)
def ze:D->Option (List At)
 |.tup es=>jR es
 |_=>none
def dM:LD->Option (List (List At))
 |[]=>some []
 |d::ds=>(ze d).bind λa=>(dM ds).map (a :: ·)
def ra (ns:LI):LI:=eU (λn=>[n]) ns
theorem lx:∀ {ds:LD}{ks:List (List At)},dM ds=some ks->ks.length=ds.length
 |[],_,h=>by simp only[dM]at h;cases h;rfl
 |d::ds,_,h=>by
  simp only[dM]at h;obtain⟨a,h1,h⟩:=oX h;obtain⟨r,h2,h⟩:=oY h;subst h;simp[lx h2]
theorem vq:∀ {ds:LD}{ks:List (List At)},dM ds=some ks->∀ {i:Nat},i<ds.length->ze (ds.getD i .non)=some (ks.getD i [])
 |[],_,h,i,hi=>by simp at hi
 |d::ds,_,h,0,hi=>by
  simp only[dM]at h;obtain⟨a,h1,h⟩:=oX h;obtain⟨r,h2,h⟩:=oY h;subst h;exact h1
 |d::ds,_,h,i+1,hi=>by
  simp only[dM]at h;obtain⟨a,h1,h⟩:=oX h;obtain⟨r,h2,h⟩:=oY h;subst h;simp only[getD_cons_succ];exact vq h2 (by simpa using hi)
section
variable {X:Cx}
theorem zf {K:Frag}{B:Hp}:∀ {vs:LV}{es:LD}{k:List At}{its:LU},bu vs its->IsL K B vs es->jR es=some k->Paired Ay k its
 |_,_,_,_,.nil,.nil,h=>by simp only[jR]at h;cases h;exact .nil
 |_,_,_,_,.cons r G,.cons i M,h=>by
  simp only[jR]at h;obtain⟨a,h1,h⟩:=oX h;obtain⟨t,h2,h⟩:=oY h;subst h;refine .cons ?_ (zf G M h2);cases i<;>simp only[K7]at h1<;>cases h1
  ·exact r
  ·exact r
theorem qg {ah:AO}{σ:St}{H:Hp}{s:Shared}(I:Inv X ah σ H s):∀ {ys:LV}{ds:LD}{ks:List (List At)}{its:LU},bu ys its->IsL X.K H ys ds->dM ds=some ks->Paired (ir s.heap) ks its
 |_,_,_,_,.nil,.nil,h=>by simp only[dM]at h;cases h;exact .nil
 |_,_,_,_,.cons r G,.cons i M,h=>by
  simp only[dM]at h;obtain⟨a,h1,h⟩:=oX h;obtain⟨t,h2,h⟩:=oY h;subst h;refine .cons ?_ (qg I G M h2);cases i<;>simp only[ze]at h1<;>try (cases h1;done)
  rename_i hq hl;cases r
  obtain⟨its',O,⟨o,T,hc,n,hd⟩,_⟩:=I.tuple hq;exact⟨_,o,_,n,rfl,T,hc,hd,by simpa using zf O hl h1⟩
theorem Cj {K:Frag}{B:Hp}:∀ {vs:LV}{ds:LD},IsL K B vs ds->∀ {i:Nat},i<ds.length->Is K B (vs.getD i .non) (ds.getD i .non)
 |_,_,.cons h _,0,_=>h
 |_,_,.cons _ t,i+1,hi=>by
  simp only[getD_cons_succ];exact Cj t (by simpa using hi)
 |_,_,.nil,i,hi=>by simp at hi
theorem zg:∀ {vs:LV}{us:LU},bu vs us->∀ {i:Nat},i<vs.length->bd (vs.getD i .non) (us.getD i Value.none)
 |_,_,.cons h _,0,_=>h
 |_,_,.cons _ t,i+1,hi=>by
  simp only[getD_cons_succ];exact zg t (by simpa using hi)
 |_,_,.nil,i,hi=>by simp at hi
theorem zh {K:Frag}{B:Hp}{vs:LV}{ds:LD}(h:IsL K B vs ds):∀(l:LN),(∀i∈l,i<ds.length)->IsL K B (l.map λi=>vs.getD i .non) (l.map λi=>ds.getD i .non)
 |[],_=>.nil
 |i::l,hl=>.cons (Cj h (hl i (mX ..))) (zh h l λj hj=>hl j (mZ _ hj))
theorem vt (h:bu vs us):∀(l:LN),(∀i∈l,i<vs.length)->bu (l.map λi=>vs.getD i .non) (l.map λi=>us.getD i Value.none)
 |[],_=>.nil
 |i::l,hl=>.cons (zg h (hl i (mX ..))) (vt h l λj hj=>hl j (mZ _ hj))
end
section
variable {X:Cx}
theorem jy:∀ {its:LU}{zs:LI},IntsAre its zs->bu (zs.map V.int) its
 |_,_,.nil=>.nil
 |_,_,.cons x t r=>.cons ⟨t,rfl⟩ (jy r)
theorem rb {K:Frag}{N:Hp}:∀(zs:LI),IsL K N (zs.map V.int) (zs.map D.int)
 |[]=>.nil
 |z::zs=>.cons (.int z) (rb zs)
def FL (p:l'.Perm l)(h:l'.Pairwise (·<=·)):l'=ra l:=by
 refine kJ _ (λx _ y _ e=>by injection e) p (h.imp λ{a b} hab=>?_);unfold HB;intro z;rw[cons_lt_cons_iff]at z;rcases z with z|⟨_,z⟩
 ·omega
 ·exact lt_irrefl _ z
end
end DL
namespace DL
open PySem PySem.Spec PyProof.Rows L2
section
variable {X:Cx}{e:Expr}{pos pos2 p p2:Pos}
def ui:cA X (.builtin "len") (λxs H Q=>∃S G,xs=[.ref S]/\H S=some (yY X S G)/\Q (.int (G.length:Nat)) H):=by
 intro ah s σ H xs us Q I r h;obtain⟨S,G,rfl,O,q⟩:=h;obtain⟨u,rfl,T⟩:=kg r;cases T
 have U:iN X.prog X.w s.heap S G:=(I.hok S _ O).1;obtain⟨o,es,ep,t,ho,M,hd,KQ,hp,nd,hb,hf,_⟩:=U;have sz:es.size=G.length:=by rw[←hp.length_eq,vI,vG]
 have XI:G.length<4096:=hb;exact PySem.call_len_set ho M hd hf (by rw[sz];omega) ⟨.int (G.length:Nat),H,I.tok _,⟨_,by rw[sz]⟩,q⟩
def DH (hc:X.calm=true)(m1:X.mg "len" = none)(m2:X.mg "set" = none)(he:JE X e f)(g1:Gl X "len":=by rfl)(g2:Gl X "set":=by rfl)
  (h1:starEach [e] X.env=(false,eval e X.env)::starEach [] X.env:=by rfl):JE X (.Call (.Name "len" p) [.Call (.Name "set" p2) [e] [] pos2] [] pos) (f1 mV f):=by
 refine PE.to (qw ui g1 m1 eZ (gB (oj (oZ hc) g2 m2 K6 (gB he jf h1) (he:=h1)) jf)) λσ H Q q=>?_;obtain⟨B,ρ,d',bb,sB,r,G,q⟩:=q;obtain⟨O,ex,G⟩:=oX G;refine⟨B,ρ,O.1,O.2,sB,r,ex,λv H1 N1 M i1 fr=>?_⟩;obtain⟨xd,xb⟩:=O;cases i1<;>try (simp[mV]at G;done)
 rename_i l0 vs ds h hl;simp only[mV]at G;obtain⟨ss,ez,G⟩:=oX G;split at G
 ·rename_i T;cases G
  refine⟨_,_,ss,rfl,M.nh.seq h,λits r'=>mQ r' hl ez,T,λS hS=>⟨S,_,rfl,aC,?_⟩⟩;have U:=Ext.laid (o:=yY X S (ge ss)) M.nh hS;exact(q.into (M.trans U)).one (M.trans U).nh (.int _)
 ·cases G
end
section
variable {X:Cx}{a:Expr}{pos:Pos}{x:Str}{p:Pos}{d:Addr}{aO:List (Str×D)}
def DI (cd:mS X.K X.w.params d aO):dQ X (compareOp .NotIn) (λx y H Q=>∃z,x=.str z/\y=.ref d/\Q (.bl (!(aO.lookup z).isSome)) H):=by
 rintro ah s σ H _ _ v u Q I M O ⟨z,rfl,rfl,q⟩;cases O
 obtain⟨t,rfl⟩:=M;obtain⟨f,T,U,hf⟩:=cd.map I;refine wpAny_notIn_of (strKind_is X.prog X.w z t) U T ⟨.bl (!(aO.lookup z).isSome),H,I.tok _,?_,q⟩;have:=hf z;cases G:aO.lookup z with
 |none=>rw[G]at this;dsimp only at this;rw[this];rfl
 |some dd=>rw[G]at this;obtain⟨_,_,e1,_⟩:=this;rw[e1];rfl
def DJ (h:∃d,X.mg x=some (.ref d)/\mS X.K X.w.params d aO)(ha:JE X a f)(U:Gl X x:=by rfl)(hd:(x == ("__debug__" : Str))=false:=by decide)(hm:behindInMarks .NotIn (.Name x p)=false:=by rfl):JT X (.Compare a [.NotIn] [.Name x p] pos) (aW (f1 (qO aO) f)):=by
 obtain⟨d,M,cd⟩:=h;refine PT.to (BB (DI cd) ha (qc (v:=.ref d) U M rfl hd) hm) λσ H Q q=>?_;obtain⟨B,ρ,d',bb,sB,r,G,q⟩:=xi q;obtain⟨O,ex,G⟩:=oX G;refine⟨B,ρ,O.1,O.2,sB,r,ex,λv H1 N1 T i1 fr=>?_⟩;obtain⟨xd,xb⟩:=O;cases i1<;>try (simp[qO]at G;done)
 rename_i z;simp only[qO]at G;cases G
 exact⟨z,rfl,rfl,(q.into T).one T.nh (.bl _)⟩
end
section
variable {prog:Program}{w:World}{A:Around}{E:QV}{s:Shared}
def Ba {a:Addr}{o:Obj}{its:AV}{n:Nat}{x:Value}{e:Value->Bool}{j:Nat}{P:PySem.Fin->Shared->Prop}(U:s.heap.get? a=some o)(hd:o.data=.seq its n)
  (he:∀y∈its,MeetsSeq.EqGives y x (e y)) (hj:j<its.size) (Ex:e its[j]=true) (M:∀m (hm:m<its.size),m<j->e its[m]=false)
  (h:P (.done (.ret (.int j s.toks))) { s with toks:=s.toks+1 }):wpAny (model prog w) A (Builtin.«tuple.index» ⟨[.ref a,x],[]⟩) P E s:=by
 show wpAny _ _ (Builtin.Tuple.tupleItemsOf (.ref a)>>=_) _ _ s;refine wX (wpAny_tupleItemsOf U hd ?_);dsimp only;refine wX (wY (wX (wY (wX ?_))));rw[Std.Legacy.Range.forIn_eq_forIn_range'];refine wpAny_forIn_list _
  (λay r s'=>r.1=none/\s'=s/\∃i,i<=j/\ay=List.range' i (its.size - i))
  _ ?_ ?_ _ _ ⟨rfl,rfl,0,uN _,?_⟩
 ·rintro k ay r s' ⟨hr,rfl,i,hi,hz⟩;have G:i<its.size:=by omega
  obtain⟨m,hm⟩:∃m,its.size - i=m+1:=⟨its.size - i - 1,by omega⟩;rw[hm,List.range'_succ]at hz;injection hz with O z2;have O:=O.symm;subst O;subst z2;have hg:its[i]? = some its[i]:=by simp[G]
  simp only[hg];refine wX (he _ (Array.getElem_mem G) prog w _ _ _ _ ?_);by_cases T:i=j
  ·subst T;rw[Ex];simp only[if_true];refine wX ?_;show wpAny _ _ (mkInt (i:Int)>>=λv=>ret v) _ _ _;exact wX (wpAny_mkInt (wY (wY (wY h))))
  ·rw[M i G (by omega)];simp only[uV,if_false];exact wY ⟨rfl,rfl,i+1,by omega,by rw[show its.size - (i+1)=m by omega]⟩
 ·rintro⟨r1,r2⟩ s' ⟨hr,rfl,i,hi,hz⟩;exfalso;have:(List.range' i (its.size - i)).length=0:=by rw[←hz];rfl
  rw[List.length_range']at this;omega
 ·simp
end
theorem CRows.findT {K:Frag}{P:Params}(y:Str){ds:LD}:∀ {es:List DictEntry}{aO:List (Str×D)},CRows K P es aO->aO.lookup y=some (.tup ds) ->
  ∃e a its n lX,es.find? (λe=>Value.isStrOf y e.key)=some e/\e.val=.ref a/\K.lookup a=some ⟨.type "tuple",none,.seq its n,lX⟩/\jO its.toList ds=true
 |_,_,.nil,h=>by simp at h
 |_,_,.tup (x:=x) (t:=t) (a:=a) (ds:=O) hh l f tl,h=>by
  by_cases e:y=x
  ·subst e;rw[lookup_cons_self]at h;cases h
   rw[vC]at f;exact⟨_,a,_,_,_,List.find?_cons_of_pos (by simp[Value.isStrOf]),rfl,l,f.2⟩
  ·rw[lookup_cons,beq_eq_false_iff_ne.mpr e]at h;have G:Value.isStrOf y (Value.str x t)=false:=by
    rw[Bool.eq_false_iff];intro z;obtain⟨t',q⟩:=Value.isStrOf_shape z;injection q with M;exact e M.symm
   simp only[find?_cons,G];exact tl.findT y h
 |_,_,.flat (x:=x) (t:=t) (u:=u) (d:=d) hh f tl,h=>by
  by_cases e:y=x
  ·subst e;rw[lookup_cons_self]at h;cases h
   cases u<;>simp[xu]at f
  ·rw[lookup_cons,beq_eq_false_iff_ne.mpr e]at h;have G:Value.isStrOf y (Value.str x t)=false:=by
    rw[Bool.eq_false_iff];intro z;obtain⟨t',q⟩:=Value.isStrOf_shape z;injection q with M;exact e M.symm
   simp only[find?_cons,G];exact tl.findT y h
section
variable {X:Cx}{b e:Expr}{pos:Pos}{x:Str}{p:Pos}
def Rr (K:Frag):V->LV->Hp->VK->Prop:=λx xs H Q=>∃(a:Addr)(o:Obj)(its:AV)(n:Nat)(zs:LS)(y:Str),x=.ref a/\xs=[.str y]/\K.lookup a=some o/\o.cls=.type "tuple"/\o.data=.seq its n/\StrsAre its.toList zs/\zs.findIdx (· == y)<zs.length/\Q (.int (zs.findIdx (· == y):Nat)) H
noncomputable def K8 (y:Str):Value->Bool
 |.str z _=>z == y
 |_=>false
theorem Ck:∀ {its:LU}{zs:LS},StrsAre its zs->∀(i:Nat)(hi:i<its.length),∃(h:i<zs.length)(t:Tok),its[i]=.str zs[i] t
 |_,_,.cons z t h,0,_=>⟨by simp,t,rfl⟩
 |_,_,.cons z t h,i+1,hi=>by
  obtain⟨h',t',e⟩:=Ck h i (by simpa using hi);exact⟨by simpa using h',t',by simpa using e⟩
 |_,_,.nil,i,hi=>by simp at hi
theorem zi:∀ {its:LU}{zs:LS},StrsAre its zs->its.length=zs.length
 |_,_,.nil=>rfl
 |_,_,.cons _ _ h=>by rw[vE,vE,zi h]
def FM:L9 X "tuple.index" (Rr X.K):=by
 intro ah s σ H x xs v us Q I T U h;obtain⟨a,o,its,n,zs,y,rfl,rfl,lk,hc,hd,hz,hk,q⟩:=h;cases T
 obtain⟨u,rfl,⟨t,rfl⟩⟩:=U.one;have O:=I.kIn a o lk;have hl:=zi hz;rw[vG]at hl;have at':∀(i:Nat)(hi:i<its.size),∃(h:i<zs.length)(t:Tok),its[i]=.str zs[i] t:=λi hi=>by
  obtain⟨h',t',e⟩:=Ck hz i (by simpa using hi);exact⟨h',t',by simpa using e⟩
 refine wpAny_call_entry PySem.F.slot_tuple_index ⟨o,O,hc⟩ PySem.F.entry_tuple_index (Ba (e:=K8 y) (j:=zs.findIdx (· == y)) O hd (λz hm=>?_) (by omega) ?_ (λm hm M=>?_) ⟨_,rfl,.int (zs.findIdx (· == y):Nat),H,I.tok _,⟨_,rfl⟩,q⟩) (PySem.F.args_tuple_index_2 _ _)
 ·obtain⟨i,hi,rfl⟩:=Array.mem_iff_getElem.mp hm;obtain⟨_,t',G⟩:=at' i hi;rw[G];exact eqGives_str _ _ _ _
 ·obtain⟨_,t',G⟩:=at' (zs.findIdx (· == y)) (by omega);rw[G];exact List.findIdx_getElem (p:=(· == y)) (w:=hk)
 ·obtain⟨_,t',G⟩:=at' m hm;rw[G];have:=List.not_of_lt_findIdx (p:=(· == y)) (xs:=zs) M;simpa [K8]using this
@[simp] def mq (aO:List (Str×D)):D->D->OB
 |.str y,.str z=>match aO.lookup y with
  |some (.tup ds)=>(ki ds).bind λzs=>if zs.findIdx (· == z)<zs.length then some (.int (zs.findIdx (· == z):Nat),false)else none
  |_=>none
 |_,_=>none
def IS {aO:List (Str×D)}{f g:FE}{dJ cF:Pos}(h:∃d,X.mg x=some (.ref d)/\mS X.K X.w.params d aO)(hb:JE X b f)(he:JE X e g)(hg:Gl X x:=by rfl)(Sr:(x == ("__debug__" : Str))=false:=by decide)(hs:qd b:=by intro _ _;rfl)
  (M:attributeBase (.Subscript (.Name x p) b pos) "index" X.env (eval (.Subscript (.Name x p) b pos) X.env)=eval (.Subscript (.Name x p) b pos) X.env:=by rfl)
  (U:((backTo cF (starEach [e] X.env)).all (λx=>!x.1) && (backToKw cF (keywordEach [] X.env)).all (λx=>x.1.isSome)
   && decide ([e].length+([]:List Keyword).length+(if([]:List Keyword).isEmpty then 0 else 1)<30))=true:=by rfl)
  (O:(dJ.endLine == cF.line)=true:=by rfl) (E7:starEach [e] X.env=[(false,eval e X.env)]:=by rfl):
  JE X (.Call (.Attribute (.Subscript (.Name x p) b pos) "index" dJ) [e] [] cF) (f2 (mq aO) f g):=by
 obtain⟨d,hm,cd⟩:=h;have ix:EM X (λx y H Q=>∃z ds,x=.ref d/\y=.str z/\aO.lookup z=some (.tup ds)/\∀a its n lX,X.K.lookup a=some ⟨.type "tuple",none,.seq its n,lX⟩->jO its.toList ds=true->Q (.ref a) H):=by
  intro value slice ah s σ H x y v u Q I rx ry q hs;obtain⟨z,ds,rfl,rfl,el,q⟩:=q;cases rx
  obtain⟨t,rfl⟩:=ry;obtain⟨es,n,l,r,sm⟩:=cd;have hM:=PySem.W.mapOf_K (prog:=X.prog) (w:=X.w) I.kIn l r.lit;obtain⟨en,a,its,n',lX,e1,e2,e3,e4⟩:=r.findT z el;have ff:findBy Value.isStrOf es z=some (.ref a):=by
   unfold findBy;obtain⟨es⟩:=es;rw[List.find?_toArray,e1,←e2];rfl
  exact tail_any hM.typeIs slot_dict_getitem.lookup (wpAny_getItem_of (strKind_is X.prog X.w z t) hM ff ⟨.ref a,H,I.tok _,rfl,q a _ _ _ e3 e4⟩) hs
 refine PE.to (ES (T:="tuple") PySem.F.plainAttrs_tuple PySem.F.slot_tuple_index PySem.F.type_tuple_index FM (EN ix (qc (v:=.ref d) hg hm rfl Sr) hb hs) (gB he jf E7) M U O E7 rfl) λσ H Q q=>?_;obtain⟨B,ρ,d',bb,sB,r,G,q⟩:=q;obtain⟨x1,ex,G⟩:=oX G;obtain⟨y1,ey,G⟩:=oX G;obtain⟨xd,xb⟩:=x1;obtain⟨yd,yb⟩:=y1;cases xd with
 |str z=>
  cases yd with
  |str y=>
   refine⟨B,ρ,_,xb,sB,r,ex,λv H1 N1 xt i1 _=>?_⟩;cases i1
   simp only[mq]at G;split at G
   ·rename_i ds el;obtain⟨zs,ez,G⟩:=oX G;split at G
    ·rename_i hk;cases G
     refine⟨z,ds,rfl,rfl,el,λa its n lX l fl=>⟨.inr (.inl ⟨rfl,_,l,rfl,rfl⟩),N1,ρ,_,yb,xt.nh,r.mono xt.bn,ey,λv2 H2 N2 xt2 i2 _=>?_⟩⟩;cases i2
     obtain⟨vs,rv,iv⟩:=jP (K:=X.K) fl;exact⟨a,_,its,n,zs,y,rfl,rfl,l,rfl,rfl,mQ rv (iv N2) ez,hk,(q.into (xt.trans xt2)).one xt2.nh (.int _)⟩
    ·cases G
   ·cases G
  |_=>simp[mq]at G
 |_=>simp[mq]at G
end
open PySem.W (tabIn tabObj CodeHd kla_fn kla_obj kla_eval kla_makeFunction kla_makeFunctionHit kla_callFunE kla_codeExpr envX)
def OO (K:Frag)(c P:Addr):Prop:=∃o vs M U G tg T O tt,K.lookup c=some o/\o.cls=.type "code"/\o.data=.fields vs/\vs[11]? = some (.ref P)/\vs.getD 11 .none=.ref P/\vs.getD 18 .none=.str M U /\
 vs.getD 7 .none=.int G tg/\vs.getD 9 .none=.bool T/\vs.getD 10 .none=.int O tt/\c≠P
def Bb (K:Frag)(x:Str):Prop:=∃c P,tabIn K x=some (c,P)/\OO K c P
def FN (H:Hp)(f:Addr)(q:Str)(params:Arguments)(G:Expr)(scope:Scope)(cl:List (Str×Addr)):Prop :=
 ∃pm c M u oc O vs t,H f=some (.frz (kla_obj "<lambda>" q params G scope cl pm c M) u)/\H c=some (.frz oc O)/\oc.data=.fields vs/\vs[1]? = some (.str q t)
def FN.mono (h:FN H f q params body scope cl)(e:bc H H'):FN H' f q params body scope cl :=
 let ⟨pm,c,G,u,oc,M,vs,t,h1,h2,h3,h4⟩:=h;⟨pm,c,G,u,oc,M,vs,t,e _ _ h1,e _ _ h2,h3,h4⟩
def lam_mk {K:Frag}{x:Str}{f c P:Addr}{oc:Value}{od WD:Option Addr}{lX T:Array (Option Value)}{fd:FuncData}{vs:AV}{M:Str}{tf tg tt:Tok}{G O:Int}{U:Bool}(e1:nsIn K mainGlobals x=some (some (.ref f)))(e2:K.lookup f=some ⟨oc,od,.func fd,lX⟩)
  (e3:fd.code=.ref c) (e4:K.lookup c=some ⟨.type "code",WD,.fields vs,T⟩) (e5:vs[11]? = some (.ref P)) (e6:vs.getD 11 .none=.ref P) (e7:vs.getD 18 .none=.str M tf) (e8:vs.getD 7 .none=.int G tg) (e9:vs.getD 9 .none=.bool U) (WE:vs.getD 10 .none=.int O tt) (Us:(c == P)=false):Bb K x :=
 ⟨c,P,tab_yes e1 e2 e3 e4 e5,_,vs,M,tf,G,tg,U,O,tt,e4,rfl,rfl,e5,e6,e7,e8,e9,WE,λz=>by rw[z]at Us;simp at Us⟩
def Bc (l:LU)(h:TriplesOk l)(e:codeAmong pos (l++[rawInt a,rawInt b,c])=some cv):codeAmong pos l=some cv∨cv=c:=by
 fun_induction TriplesOk l with
 |case1=>
  simp only[List.nil_append,rawInt,codeAmong]at e;split at e
  ·cases e;exact .inr rfl
  ·cases e
 |case2 M t O u x ay G=>
  simp only[cons_append,codeAmong]at e ⊢;split at e
  ·rename_i hc;rw[if_pos hc];exact .inl e
  ·rename_i hc;rw[if_neg hc];exact G h e
 |case3 l h1 h2=>exact h.elim
section
variable {X:Cx}{ah:AO}{σ:St}{H:Hp}{s:Shared}
def FP 
  (hx:x∈mK) (L:Bb X.K x) (hc:∀c P,tabIn X.K x=some (c,P)->X.env.code=.ref c) (hq:X.env.qual ++ "<lambda>" = qz x) (Ss:defaultsOf params X.env=([],[])) (MZ:closureFor scope X.env=pure cl)
  (I:Inv X ah σ H s) (tb:Tb X.K H) (k:∀f H' s',Inv X ah σ H' s'->bc H H'->FN H' f (qz x) params body scope cl->Q (.ref f) s'):
  wq X (eval (.Lambda params body scope pos) X.env) Q E s:=by
 refine kla_eval Ss ?_;rw[hq];obtain⟨c,P,ht,o,vs,Su,tf,Qa,tg,WG,Sv,tt,lk,ck⟩:=L;have M:=hc c P ht;have hP:=tb x hx c P ht;obtain⟨ps,e,tr,co⟩:=I.hok P _ hP;have C:CodeHd s.heap c P:=⟨o,vs,Su,tf,Qa,tg,WG,Sv,tt,I.kIn c o lk,ck⟩;have hg:s.heap.Ns mainGlobals X.mg:=I.mod.glob.keeps I.bk;have nP:∀b,H b=none->b≠P:=λb n z=>by rw[z,hP]at n;cases n
 have WH:mainGlobals≠P:=by
  obtain⟨og,_,_,eg,_⟩:=I.mod.glob;exact nP _ (I.bs _ _ eg).2
 have hb:s.heap.BuiltinsAt X.mg P:=by
  obtain⟨bm,ob,b1,b2,b3,b4,b5,b6⟩:=I.mod.bmain;refine⟨bm,ob,b1,b2,λz=>?_,nP _ (I.bs _ _ b3).2,I.bk _ _ b3,b4,b5,b6⟩;obtain⟨og,es,ep,eg,dg,_⟩:=I.mod.glob;rw[z,eg]at b3;cases b3;rw[dg]at b6;cases b6
 cases hf:codeAmong pos ps.toList with
 |some cv=>
  obtain⟨G,oc,u,ws,t,rfl,hH,hd,hv⟩:=co pos cv hf;refine kla_makeFunctionHit (mg:=X.mg) MZ I.ok.glob hg M C e tr hf hb λO h' tk hk hsz=>?_;have hn:H h'.objs.size=none:=I.hok.fresh hsz;have T:bc H (upd H h'.objs.size (.frz (kla_obj "<lambda>" (qz x) params body scope cl ((X.mg "__name__").getD .none) G O) (.own h'.objs.size))):=λb u q=>by rw[aG (bf q hn)];exact q
  refine k _ _ _ (I.laid (t':=tk) (λb u q=>vZ _ (hk b u q)) hsz (show bN X.prog X.w _ _ _ (.frz _ (.own h'.objs.size))from ⟨vY _ rfl,_,vY _ rfl⟩)) T ?_;exact⟨_,G,O,_,oc,u,ws,t,aC,T _ _ hH,hd,hv⟩
 |none=>
  refine kla_makeFunction (mg:=X.mg) MZ I.ok.glob hg M C e tr hf WH hb λG O h' tk hx' hge yj hrec htb=>?_;obtain⟨c2,oc,ws,t,e2,Ke,hd,hv⟩:=hrec;cases e2
  have Sw:H G=none:=I.hok.fresh hge;have hsz:s.heap.objs.size<=h'.objs.size:=vR hge (le_of_lt yj);have WI:H h'.objs.size=none:=I.hok.fresh hsz;have WJ:G≠h'.objs.size:=vS yj;let fo:Obj:=kla_obj "<lambda>" (qz x) params body scope cl ((X.mg "__name__").getD .none) G O;let H1:Hp:=upd (upd H G (.frz oc (.own G))) h'.objs.size (.frz fo (.own h'.objs.size));have T:bc H H1:=λb u q=>by
   show upd _ _ _ b=_;rw[aG (bf q WI),aG (bf q Sw)];exact q
  have Sx:H1 G=some (.frz oc (.own G)):=by show upd _ _ _ G=_;rw[aG WJ,aC]
  have keep:∀b u,b≠P->s.heap.get? b=some u->(h'.push fo).get? b=some u:=λb u n q=>vZ _ (hx' b u n q);have lt:∀b u,s.heap.get? b=some u->b≠G/\b≠h'.objs.size:=λb u q=>⟨vS (vQ (vX q) hge),vS (vQ (vX q) hsz)⟩;have U:(h'.push fo).get? P=some (tabObj (ps++#[rawInt pos.line,rawInt pos.col,.ref G])):=vZ _ htb;refine k _ H1 _ (I.un (t':=tk) (h':=h'.push fo) ⟨λb u q n _ _=>keep b u (nP b n) q,λb u q n _ _=>⟨u.slots,keep b u (nP b n) q⟩,λb u q n _=>?_,λb u q _=>?_,λb xs q=>T _ _ q,λb ob u q=>T _ _ q,λb u q=>T _ _ q⟩ λb u q=>?_) T ⟨_,G,O,_,oc,_,ws,t,aC,Sx,hd,hv⟩
  ·show upd _ _ _ b=_;rw[aG (lt b u q).2,aG (lt b u q).1];exact n
  ·by_cases z:b=P
   ·subst z;exact⟨_,U⟩
   ·exact⟨u,keep b u z q⟩
  ·by_cases z1:b=h'.objs.size
   ·subst z1;have q':some (HO.frz fo (.own h'.objs.size))=some u:=by rw[←q];exact aC.symm
    cases q'
    exact⟨vY _ rfl,_,vY _ rfl⟩
   ·by_cases z2:b=G
    ·subst z2;rw[Sx]at q;cases q;exact⟨vZ _ Ke,_,vZ _ Ke⟩
    ·have q':H b=some u:=by
      have:H1 b=H b:=by show upd _ _ _ b=_;rw[aG z1,aG z2]
      rw[←this];exact q
     by_cases z3:b=P
     ·subst z3;rw[hP]at q';cases q';refine⟨_,U,?_,λHo cv' ea=>?_⟩
      ·rw[Array.toList_append];exact TriplesOk_snoc _ _ _ _ tr
      ·rw[Array.toList_append]at ea;rcases Bc _ tr ea with ea|rfl
       ·obtain⟨c3,WK,u3,WL,t3,y1,y2,y3⟩:=co Ho cv' ea;exact⟨c3,WK,u3,WL,t3,y1,T _ _ y2,y3⟩
       ·exact⟨G,oc,_,ws,t,rfl,Sx,hd,hv⟩
     ·refine(I.hok b u q').stay (λd v Sy r=>keep d v ?_ r) (λd r=>T _ _ r) (λd xs r=>T _ _ r) λd ob v r=>T _ _ r;rcases Sy with rfl|r
      ·exact z3
      ·intro z;rw[z,hP]at r;cases r
end
section
variable {P:Program}{w:World}{K:Frag}{mg:SV}{base:Heap}
def cD.fnL {x:Str}{st:Stmt}{N ps:LS}{k:Nat}{g:FS}{h:Heap}(F:cD K x st)(X:K.In h)(G:h.Ns mainGlobals mg)(S:FnScope N ps (aK st))
  (O:∀(kV doc pm:Value)(an:Option Addr)(cS ct:Value)(us:LU),us.length=ps.length->bindArgs (fnOf x x (dL st) (bZ st) (aK st) .none kV doc pm an cS ct) ⟨us,[]⟩=pure (ps.zip us))
  (hb:∀(f:Addr)(cS:Value)(A:Around)(outer:List PySem.Env)(s:Shared)(H:Hp)(E:XK),(∀c P,tabIn K x=some (c,P)->cS=.ref c)->eP k (A.deeper (envOfC x (aK st) s.heap.objs.size f cS))->uE (oi yh P w K mg base N x (aK st) f cS A outer s H E).nox (bZ st) g):
  Fn P w K mg base (k+1) x (aE g ps.length (N.length - ps.length)):=by
 obtain⟨f,fd,T,a⟩:=F;have F2:=T;obtain⟨oc,od,kV,doc,pm,an,cS,ct,lX,rfl,lk,U⟩:=F2.ex;have hc:∀c P,tabIn K x=some (c,P)->cS=.ref c:=λc P e=>by
  unfold tabIn at e;simp only[a,lk]at e;split at e
  ·rename_i c' _;split at e
   ·split at e
    ·cases e;rfl
    ·cases e
   ·cases e
  ·cases e
 have len:∀vs H Q E,Fk K (aE g ps.length (N.length - ps.length)) vs H Q E->vs.length=ps.length:=λvs H Q E h=>by
  obtain⟨B,ds,d,b,sB,i,e,q⟩:=h;unfold aE at e;split at e
  ·rename_i hl;rw[i.length];exact hl
  ·cases e
 refine⟨f,_,ps,EI lk U S len λA outer s H vs Q E hr h=>⟨_,tY.nox (hb f cS A outer s H E hc hr),?_⟩,mg_of X G a,T.kp,T.binds O⟩;have M:=len vs H Q E h;obtain⟨B,ds,d,b,sB,i,e,q⟩:=h;unfold aE at e;rw[if_pos (by rw[←i.length];exact M)]at e;have s0:=qG (N:=N) sB.1 sB.2 i;rw[M]at s0;split at e
 ·rename_i d' b' eg;cases e
  exact⟨B,H,_,_,⟨B,s0⟩,eg,λv H' N' x' i' f'=>q v H' N' x' i' f'⟩
 ·rename_i ρ' eg;cases e
  exact⟨B,H,_,_,⟨B,s0⟩,eg,λσ' H' ⟨N',s'⟩=>q .non H' N' s'.ext .non (by simp)⟩
 ·cases e
end
inductive lY (X:Cx)(N':List Str)(scope:Scope)(cl:List (Str×Addr)):Nat->List Nat->Prop where
 |nil {j:Nat}(h:N'.length=j):lY X N' scope cl j []
 |cons {j i:Nat}{r:List Nat}{x:Str}(h1:N'[j]? = some x) (h2:X.N[i]? = some x) (h3:X.env.kindOf x=some .cell∨X.env.kindOf x=some .free)
   (h4:scope.names.lookup x=some .free) (h5:cl.lookup x=X.env.cells.lookup x) (t:lY X N' scope cl (j+1) r):lY X N' scope cl j (i::r)
theorem lY.len:∀ {j:Nat}{cap:LN},lY X N' scope cl j cap->N'.length=j+cap.length
 |_,_,.nil h=>by rw[h];rfl
 |j,i::r,.cons _ _ _ _ _ t=>by rw[t.len,vE];omega
theorem lY.get:∀ {j:Nat}{cap:LN}{k i:Nat},lY X N' scope cl j cap->cap[k]? = some i->∃x,N'[j+k]? = some x/\X.N[i]? = some x/\(X.env.kindOf x=some .cell∨X.env.kindOf x=some .free) /\
  scope.names.lookup x=some .free/\cl.lookup x=X.env.cells.lookup x
 |_,_,_,_,.nil _,e=>by simp at e
 |j,_,0,_,.cons h1 h2 h3 h4 h5 _,e=>by simp at e;subst e;exact⟨_,h1,h2,h3,h4,h5⟩
 |j,_,k+1,i,.cons _ _ _ _ _ t,e=>by
  obtain⟨x,q,r⟩:=t.get (k:=k) (i:=i) (by simpa using e);exact⟨x,by rw[show j+(k+1)=j+1+k by omega];exact q,r⟩
noncomputable abbrev zj (X:Cx)(N':LS)(scope:Scope)(cl:List (Str×Addr))(q:Str)(A:Around)(f c:Addr)(s:Shared)(H:Hp):Cx :=
 { X with A:=A.deeper (envX q scope s.heap.objs.size f (.ref c) cl),N:=N',s₀:=s,H₀:=H,env:=envX q scope s.heap.objs.size f (.ref c) cl,outer:=X.stack,stack:=envX q scope s.heap.objs.size f (.ref c) cl::X.stack,ex:=[],fn:=λ_=>false,calm:=true,pn:=[],xe:=λ_ _=>False }
structure LamSc (X:Cx)(scope:Scope)(cl:List (Str×Addr))(y:Str):Prop where
 clos:closureFor scope X.env=pure cl
 nocell:∀z∈scope.names,z.2≠.cell
 kind:scope.kind=.function
 co:scope.isCoroutine=false
 gen:scope.isGenerator=false
 par:scope.names.lookup y=some .local
 sub:∀x c,cl.lookup x=some c->X.env.cells.lookup x=some c
 has:∀x,scope.names.lookup x=some .free->∃c,cl.lookup x=some c
def Cm (h1:∀z∈scope.names,z.2≠.cell)(h2:scope.kind=.function)(h3:scope.isCoroutine=false)(G:scope.isGenerator=false)(hp:scope.names.lookup y=some .local)
  (M:(scope.names.all λz=>!(z.2 == NameKind.free) || (X.env.cells.lookup z.1).isSome)=true):LamSc X scope (dX scope.names X.env.cells []) y:=by
 have h4:∀z∈scope.names,z.2=.free->(X.env.cells.lookup z.1).isSome=true:=λz hz e=>by
  have:=uR M z hz;rw[e]at this;simpa using this
 exact⟨uF scope.names [] h4,h1,h2,h3,G,hp,λx c e=>mL scope.names [] (λy d q=>by cases q) e,λx h=>by
  have:=mM (x:=x) scope.names [] (gb h) (h4 _ (gb h) rfl);exact uU this⟩
section
variable {X:Cx}{ah:AO}{σ:St}{H:Hp}{s:Shared}{A:Around}{N':LS}{scope:Scope}{cl:List (Str×Addr)}{q y:Str}{cap:LN}
def IT (S:LamSc X scope cl y)(N0:N'[0]? = some y)(cp:lY X N' scope cl 1 cap)(I:Inv X ah σ H s)(hA:A.frames=some X.stack)(hh:A.handled=none)(r:bd v u)
  (MW:h₁.Ns s.heap.objs.size (λx=>[(y,u)].reverse.lookup x)) (hk:∀b o,s.heap.get? b=some o->h₁.get? b=some o):
  Inv (zj X N' scope cl q A f c s H) [] (some v::uc 0 cap σ) H { s with heap:=h₁,toks:=tk }:=by
 have M:∀b:Addr,b∉(zj X N' scope cl q A f c s H).ex:=λb z=>absurd (show b∈([]:List Addr)from z) (by simp);refine⟨⟨I.ok.mod,S.kind,rfl,rfl,vT _,λx z d U e2=>I.ok.inj x z d (S.sub _ _ U) (S.sub _ _ e2),λx hx=>?_,(λx d e=>by cases e),λ_=>hh,Around.frames_deeper hA,.inr ⟨rfl,rfl⟩,λb z=>absurd z (M b),I.bs,vR I.ok.bsz I.sz,λb _ _=>M b,λb z=>absurd z (M b),I.stack,I.stkFree⟩,
  rfl,I.bare,Un.kept hk,⟨_,MW,λi x v' U e2 e3=>?_⟩,λx d e=>?_,I.hok.fresh (vT _),λx d e=>I.freeC x d (S.sub _ _ e),λp hp=>absurd (show p∈([]:AO)from hp) (by simp),I.hok.kept hk,?_⟩
 ·have hx':scope.names.lookup x=some .cell∨scope.names.lookup x=some .free:=hx;rcases hx' with hx'|hx'
  ·exact absurd rfl (S.nocell _ (gb hx'))
  ·exact S.has x hx'
 ·cases i with
  |zero=>
   have G:N'[0]? = some x:=U;rw[N0]at G;cases G;have O:some v=some v':=by simpa using e2
   cases O
   exact⟨u,r,.inl ⟨S.par,by simp⟩⟩
  |succ k=>
   have O:(uc 0 cap σ)[k]? = some (some v'):=by simpa using e2
   obtain⟨k',i',KU,g1,T⟩:=xh O;have:k=k':=by omega
   subst this;obtain⟨x',n1,n2,n3,n4,n5⟩:=cp.get g1;have:x'=x:=by
    have G:N'[k+1]? = some x:=U;rw[show 1+k=k+1 by omega]at n1;rw[n1]at G;exact vK G
   subst this;have WM:σ[i']? = some (some v'):=by
    cases z:σ[i']? with
    |none=>rw[z]at T;cases T
    |some w=>rw[z]at T;cases w with
     |none=>cases T
     |some w=>cases T;rfl
   obtain⟨m,_,hl⟩:=I.loc;obtain⟨u',ru,lk⟩:=hl i' x' v' n2 WM (by
    rcases n3 with n3|n3
    ·exact .inr (.inl n3)
    ·exact .inr (.inr n3))
   refine⟨u',ru,.inr ⟨.inr n4,?_⟩⟩;rcases lk with⟨l1,_⟩|⟨_,d,l2,l3⟩
   ·rcases n3 with n3|n3<;>(rw[l1]at n3;cases n3)
   ·obtain⟨ob,ho,hd⟩:=l3;exact⟨d,by show cl.lookup x'=_;rw[n5];exact l2,ob,hk _ _ ho,hd⟩
 ·obtain⟨w,ob,ho,hd⟩:=I.cell x d (S.sub _ _ e);exact⟨w,ob,hk _ _ ho,hd⟩
 ·have:=cp.len;show(some v::uc 0 cap σ).length=N'.length;unfold uc;rw[this];simp;omega
def IU (S:LamSc X scope cl y)(N0:N'[0]? = some y)(cp:lY X N' scope cl 1 cap)(I:Inv X ah σ H s)
  (hA:A.frames=some X.stack) (hh:A.handled=none) (G:A.depth<recursionLimit) (lv:FN H f q params body scope cl)
  (M:∀pm c T u,bindArgs (kla_fn "<lambda>" q params body scope cl pm (.ref c) T) ⟨[u],[]⟩=pure [(y,u)])
  (hb:∀(f c:Addr)(s:Shared)(H:Hp),JE (zj X N' scope cl q A f c s H) body fb)
  (rep:fU X.K B σ ρ) (sB:bc B H) (r:bd v u) (i:Is X.K B v d) (e:fb (some (d,false)::dr 0 cap ρ)=some (d',b')) (qf:Fin X.K B H d' b' Q):
  wpAny (model X.prog X.w) A (call (.ref f) [u]) (EP X ah σ Q) (λ_ _=>False) s:=by
 obtain⟨pm,c,T,uf,oc,u',ws,t,hf,hc,hd,hv⟩:=lv;have ho:=(I.hok f _ hf).1;have Ke:=(I.hok c _ hc).1;refine wpAny_call (codeAny_mono (R:=λr s'=>CR yh X.stack X.prog X.w H s Q (λ_ _ _=>False) r s') ?_ λr s' hq=>?_)
 ·refine kla_callFunE G ho rfl S.co S.gen rfl ⟨c,oc,ws,t,rfl,Ke,hd,hv⟩ ?_;rw[M];refine wY (wpAny_newFunctionEnv S.nocell (λz hz=>by rw[uT hz];exact S.par) (λU MW hsb=>⟨I.nolimit.fresh _ hsb,?_⟩) S.kind);have O:∀b o,s.heap.get? b=some o->U.get? b=some o:=λb o e=>hsb.extBut b o (vS (vX e)) (vZ _ e);have J:=IT (f:=f) (c:=c) (q:=q) (tk:=s.toks+1) S N0 cp I hA hh r MW O;refine kla_codeExpr (wpAny_mono (hb f c s H [] _ _ H Q J ⟨B,_,d',b',sB,⟨rep.tb,λj e0 b0 z=>?_⟩,e,qf⟩) (λw s' hw=>?_) λ_ _ z=>z.elim)
  ·cases j with
   |zero=>
    have z':some (d,false)=some (e0,b0):=by simpa using z
    cases z'
    exact⟨v,rfl,i⟩
   |succ j=>
    obtain⟨w,h1,h2⟩:=(rep.caps (nT:=0) (cap:=cap)).at' j e0 b0 (by simpa using z);exact⟨w,by simpa using h1,h2⟩
  ·obtain⟨v',H',J',rv,qv⟩:=hw;exact⟨v',H',J'.os,J'.bare,J'.base,J'.hok,rv,qv⟩
 ·cases r with
  |error e=>exact False.elim hq
  |ok fl=>
   cases fl with
   |ret w=>exact I.after hq
   |next=>exact False.elim hq
   |brk=>exact False.elim hq
   |cont=>exact False.elim hq
end
end DL
namespace DL
open PySem PySem.Spec PySem.W PyProof.Rows L2
section
variable {X:Cx}{ah:AO}{σ:St}{H:Hp}{s:Shared}{h':Heap}{t':Nat}
def o6 (I:Inv X ((p,o)::ah) σ H s):∀x c,X.env.cells.lookup x=some c->c≠p:=λx c e z=>by
 have G:=I.pin (p,o) (mY _ mX);obtain⟨v,ob,M,hd⟩:=I.cell x c e;rw[z,G.1]at M;cases M;exact G.2.2.2.2 v hd
def kK (I:Inv X (p::ah) σ H s):Inv X ah σ H s:=I.pins_of λq hq=>I.pin q (mY _ (mZ _ hq))
def iu (I:Inv X ((p,o)::ah) σ H s)(h0:X.s₀.heap.objs.size<=p)(hp:∀q∈X.pn++ah,q.1≠p)(k:∀b u,b≠p->s.heap.get? b=some u->h'.get? b=some u)(M:h'.get? p=some o')(O:∀v,o'.data≠.cell v):
  Inv X ((p,o')::ah) σ H { s with heap:=h',toks:=t' }:=by
 have G:=I.pin (p,o) (mY _ mX);have J:=(kK I).turned (t':=t') k G.2.1 G.2.2.1 (.inr h0) (o6 I) hp;refine J.pins_of λq hq=>?_;rcases vP hq with rfl|hq
 ·exact⟨M,G.2.1,G.2.2.1,G.2.2.2.1,O⟩
 ·exact J.pin q (mY _ hq)
def qh (I:Inv X ah σ H s)(k:∀b u,s.heap.get? b=some u->h'.get? b=some u)(hs:s.heap.objs.size<=p)(G:h'.get? p=some o)(M:∀v,o.data≠.cell v):Inv X ((p,o)::ah) σ H { s with heap:=h',toks:=t' }:=by
 have J:=I.kept (t':=t') k;refine J.pins_of λq hq=>?_;rcases vP hq with rfl|hq
 ·exact⟨G,I.hok.fresh hs,ne_of_gt (vQ I.lt hs),I.nofs hs,M⟩
 ·exact J.pin q (mY _ hq)
def IV (I:Inv X ((p,o)::ah) σ H s)(h0:X.s₀.heap.objs.size<=p)(hp:∀q∈X.pn++ah,q.1≠p)(k:∀b u,b≠p->s.heap.get? b=some u->h'.get? b=some u)(U:∃u,h'.get? p=some u)
  (new:bN X.prog X.w (upd H p ob) h' p ob):Inv X ah σ (upd H p ob) { s with heap:=h',toks:=t' }:=by
 have G:=I.pin (p,o) (mY _ mX);have hn:=G.2.1;have hn:H p=none:=hn;have cs:=o6 I;refine(kK I).step (g':=s.gens) (d':=s.drawn) (ch:=[p]) (λb hb=>?_) (λb u _ _ hc e _=>k b u (λz=>hc (by simp[z])) e) (λb u _ _ hc e _=>⟨u.slots,k b u (λz=>hc (by simp[z])) e⟩) (λb u hc _ n=>by rw[aG (λz=>hc (by simp[z]))];exact n)
  (λb u hc e=>⟨u,k b u (λz=>hc (by simp[z])) e⟩) (λb xs e=>by rw[aG (bf e hn)];exact e) (λb u w e=>by rw[aG (bf e hn)];exact e) (λb q e=>by rw[aG (bf e hn)];exact e) (λm hm=>?_) (λb u e=>?_) I.bare
 ·have z:b=p:=by simpa using hb
  subst z;exact⟨.inr h0,G.2.2.1,cs,hp⟩
 ·obtain⟨M,es,O,T,r⟩:=hm;exact⟨M,es,O,k _ M (λz=>G.2.2.1 z.symm) T,r⟩
 ·by_cases z:b=p
  ·subst z;rw[aC]at e;cases e;exact new
  ·rw[aG z]at e;refine(I.hok b u e).stay (λc v hc q=>k c v ?_ q) (λc q=>?_) (λc xs q=>?_) λc w xs q=>?_
   ·rcases hc with rfl|hc
    ·exact z
    ·exact bf hc hn
   ·rw[aG (bf q hn)];exact q
   ·rw[aG (bf q hn)];exact q
   ·rw[aG (bf q hn)];exact q
end
def Cn (X:Cx)(A:Around)(σ:St)(G:Value)(B M:Hp)(O:D->Option D):Prop :=
 ∀(ah:AO)(s:Shared)(H N:Hp)(v:V)(u:Value)(d d':D),Inv X ah σ H s->bc M H->bc B N->bc N H->Is X.K N v d->bd v u->O d=some d' ->
  wpAny (model X.prog X.w) A (call G [u]) (EP X ah σ λT H'=>∃N',Ext N N' H H'/\Is X.K N' T d') (λ_ _=>False) s
def JK (X:Cx)(A:Around)(e:Expr)(O:Env->D->Option D):Prop:=∀(ah:AO)(s:Shared)(σ:St)(H B:Hp)(ρ:Env)(Q:QV)(E:QV),Inv X ah σ H s->bc B H->fU X.K B σ ρ ->
 (∀M G s1,Inv X ah σ G s1->bc H G->Cn X A σ (.ref M) B G (O ρ)->Q (.ref M) s1)->wq X (eval e X.env) Q E s
section
variable {X:Cx}{A:Around}
@[simp] def rd (cap:LN)(G:FE):Env->D->Option D:=λρ d=>(G (some (d,false)::dr 0 cap ρ)).map (·.1)
def xG (hx:x∈mK)(L:Bb X.K x)(hc:∀c P,tabIn X.K x=some (c,P)->X.env.code=.ref c)(hq:X.env.qual ++ "<lambda>" = qz x)
  (M:defaultsOf params X.env=([],[])) (S:LamSc X scope (dX scope.names X.env.cells []) y) (N0:N'[0]? = some y) (cp:lY X N' scope (dX scope.names X.env.cells []) 1 cap) (hA:A.frames=X.A.frames) (O:eP (k+1) A)
  (G:∀pm c T u,bindArgs (kla_fn "<lambda>" (qz x) params body scope (dX scope.names X.env.cells []) pm (.ref c) T) ⟨[u],[]⟩=pure [(y,u)])
  (hb:∀(f c:Addr)(s:Shared)(H:Hp),eP k (zj X N' scope (dX scope.names X.env.cells []) (qz x) A f c s H).A->JE (zj X N' scope (dX scope.names X.env.cells []) (qz x) A f c s H) body fb):JK X A (.Lambda params body scope pos) (rd cap fb):=by
 intro ah s σ H B ρ Q E I sB rep kk;refine FP hx L hc hq M S.clos I (rep.tb.mono sB) λf H1 s1 I1 sm lv=>kk f H1 s1 I1 sm ?_;intro U s' H' N v u d d' I' m1 m2 m3 iv r e;simp only[rd]at e;obtain⟨⟨d2,b2⟩,e1,e2⟩:=oY e;cases e2
 exact IU S N0 cp I' (hA.trans I'.ok.frames) O.hd O.depth (lv.mono m1) G (λf c s H=>hb f c s H (O.deeper _)) (rep.mono m2) m3 r iv e1 λv' H2 N2 x2 i2 _=>⟨N2,x2,i2⟩
@[simp] noncomputable def uj (g:LD->OB):Env->D->Option D:=λ_ d=>(g [d]).map (·.1)
def Co (F:Fn X.prog X.w X.K X.mg X.base k x g)(hr:eP k A)(hA:A.frames=X.A.frames)(hg:Gl X x:=by rfl)(M:(x == ("__debug__" : Str))=false:=by decide):JK X A (.Name x p) (uj g):=by
 intro ah s σ H B ρ Q E I sB rep kk;obtain⟨ad,fd,ps,U,hm,hk,hb⟩:=F.ex;refine wN I hg hm ?_ M;refine kk ad H s I (.refl H) ?_;intro O s' H' N v u d d' T m1 m2 m3 iv r e;simp only[uj]at e;obtain⟨⟨d2,b2⟩,e1,e2⟩:=oY e;cases e2
 have sp:Fk X.K g [v] H' (λv' H2=>∃N',Ext N N' H' H2/\Is X.K N' v' d2) (λ_ _ _=>False):=⟨N,[d],d2,b2,⟨m3,rep.tb.mono m2⟩,.cons iv .nil,e1,λv' H2 N2 x2 i2 _=>⟨N2,x2,i2⟩⟩;have hl:[u].length=ps.length:=by have:=U.len _ _ _ _ sp;simpa using this
 have G:=T.env0;have bb:=hb s' [u] T.kIn (by simpa using hl);rw[uQ]at bb;refine wpAny_call (codeAny_mono (U.run A X.stack s' H' ⟨[u],[]⟩ [u] [v] _ (λ_ _ _=>False) hr ⟨hA.trans G.frames,G.mod,G.bs,G.bsz,G.funs,G.frf,G.hok,G.bare⟩ bb (.cons r .nil) sp) λr s' hq=>?_);cases r with
 |error e=>exact False.elim hq
 |ok fl=>
  cases fl with
  |ret w=>exact T.after hq
  |next=>exact False.elim hq
  |brk=>exact False.elim hq
  |cont=>exact False.elim hq
end
noncomputable def j7 (f:D->Option D):LD->Option LD
 |[]=>some []
 |d::ds=>(f d).bind λx=>(j7 f ds).map (x :: ·)
theorem kL:∀ {ds ks:LD},j7 f ds=some ks->ks.length=ds.length
 |[],_,h=>by simp only[j7]at h;cases h;rfl
 |d::ds,_,h=>by
  simp only[j7]at h;obtain⟨a,h1,h⟩:=oX h;obtain⟨r,h2,h⟩:=oY h;subst h;simp[kL h2]
theorem re:∀ {ds ks:LD},j7 f ds=some ks->∀ {i:Nat}{d:D},ds[i]? = some d->∃k,ks[i]? = some k/\f d=some k
 |[],_,h,i,d,e=>by simp at e
 |d::ds,_,h,0,e,q=>by
  simp only[j7]at h;obtain⟨a,h1,h⟩:=oX h;obtain⟨r,h2,h⟩:=oY h;subst h;simp at q;subst q;exact⟨a,by simp,h1⟩
 |d::ds,_,h,i+1,e,q=>by
  simp only[j7]at h;obtain⟨a,h1,h⟩:=oX h;obtain⟨r,h2,h⟩:=oY h;subst h;obtain⟨k,G,M⟩:=re h2 (i:=i) (d:=e) (by simpa using q);exact⟨k,by simpa using G,M⟩
structure KK (X:Cx)(A:Around)(kd:List D->Option (List (List At)))(ok:List (List At)->Bool):Prop where
 len:∀ {ds:List D}{ks:List (List At)},kd ds=some ks->ks.length=ds.length
 ask:∀ {ah:List (Addr×Obj)}{σ:St}{H:Hp}{s:Shared}(_:Inv X ah σ H s) {ys:List V}{ds:List D}{ks:List (List At)}{its:List Value},bu ys its->IsL X.K H ys ds->kd ds=some ks->ok ks=true->eV ks=true ->
  (0<ks.length->∀ {E:Value->Shared->Prop}{Q:SortKind->Shared->Prop},Q (tuples' true) s->wpAny (model X.prog X.w) A (keyKind' its.toArray) Q E s) /\
  ∀(i j:Nat)(C:Bool->Shared->Prop)(s1:Shared),i<ks.length->j<ks.length->s1=s->(∀s',s'=s->C (qX (HC ks) i j) s')->kas_ask X.prog X.w A (tuples' true) its i j C s1
def FQ:KK X A dM fO:=⟨lx,λI _ _ _ _ r i e hf hc=>have hp:=qg I r i e;⟨λhn _ _ q=>FK hp hf hn q,IQ hc hp⟩⟩
section
variable {X:Cx}{ah:AO}{σ:St}{s:Shared}
theorem vv (r:bd x u):∀ {vs:LV}{us:LU},bu vs us->bu (vs++[x]) (us++[u])
 |_,_,.nil=>.cons r .nil
 |_,_,.cons h t=>.cons h (vv r t)
def dv:∀v,(Obj.mk c od (.seq its n) sl).data≠.cell v:=λv z=>by cases z
def Bd 
  (I:Inv X ((a,seqObj "list" its.toArray n)::ah) σ H s) (h0:X.s₀.heap.objs.size<=a) (hp:∀q∈X.pn++ah,q.1≠a) (HG:Cn X A σ qv B H kf) (rv:bu vs its) (iv:IsL X.K B vs ds) (sB:bc B H)
  (M:KK X A kd ok) (em:j7 kf ds=some jI) (ek:kd jI=some ks) (hc:eV ks=true) (hf:ok ks=true) (NK:its.length<64)
  (h:∀(p:Array Nat)(s':Shared)(H' N:Hp),pZ its.length p->Up (HC ks) p its.length->Inv X ah σ (upd H' a (.lst (p.toList.map λi=>vs.getD i .non))) s'->Ext B N H H'->H' a=none->P (.done (.ret .none)) s'):
  wpAny (model X.prog X.w) A (ksk_tree a qv false) P E s:=by
 have pa:=I.pin (a,seqObj "list" its.toArray n) (mY _ mX)
 have MV:vs.length=its.length:=rv.length
 have NJ:ds.length=vs.length:=iv.length.symm
 have WN:jI.length=ds.length:=kL em
 have Ut:ks.length=jI.length:=M.len ek
 have hz:its.length<=sizeLine:=by rw[sizeLine_eq];omega
 have XJ:H a=none:=pa.2.1
 obtain⟨T,NI⟩:∃T,(s.heap.update a (Obj.mapSeq λ_=>(#[]:AV))).get? a=some (seqObj "list" #[] T):=⟨_,get?_update_seq pa.1 λ_=>#[]⟩
 have u1:=vW s.heap a (Obj.mapSeq λ_=>(#[]:AV))
 have I1:Inv X ((a,seqObj "list" #[] T)::ah) σ H { s with heap:=s.heap.update a (Obj.mapSeq λ_=>(#[]:AV)) }:=iu (t':=s.toks) I h0 hp (λb u n q=>(u1.2 b n).trans q) NI dv
 let h2:Heap:=(s.heap.update a (Obj.mapSeq λ_=>(#[]:AV))).push (seqObj "tuple" its.toArray 0)
 have I2:Inv X ((a,seqObj "list" #[] T)::ah) σ H { s with heap:=h2 }:=I1.kept (t':=s.toks) λb u q=>vZ _ q
 let kS:Addr:=h2.objs.size
 have I3:Inv X ((kS,seqObj "list" #[] 0)::(a,seqObj "list" #[] T)::ah) σ H { s with heap:=h2.push (seqObj "list" #[] 0) }:=qh (s:={ s with heap:=h2 }) (t':=s.toks) I2 (λb u q=>vZ _ q) (vT _) (vY _ rfl) dv
 have k0:X.s₀.heap.objs.size<=kS:=I2.sz
 have kp:∀q∈X.pn++((a,seqObj "list" #[] T)::ah),q.1≠kS:=λq hq=>vS (vX (I2.pin q hq).1)
 have XM:kS≠a:=λz=>kp (a,seqObj "list" #[] T) (mY _ mX) z.symm
 unfold ksk_tree
 refine wX (listItems_at pa.1 rfl ?_)
 refine wX (listUpdate_at pa.1 rfl ?_ (by simpa using hz) (uN _))
 refine wX (seqEpoch_at NI rfl ?_)
 refine wX (wpAny_newTuple ?_ (by show its.length<=sizeLine;exact hz))
 refine wX (wpAny_newList ?_ (uN _))
 refine wpAny_holding ?_
 show wpAny (model X.prog X.w) A (ksk_rest a qv false its.toArray T (.ref kS)) P E { s with heap:=h2.push (seqObj "list" #[] 0) }
 unfold ksk_rest
 refine wX (wpAny_rule ?_)
 rw[List.forIn_toArray]
 refine wX (ksk_fold (λi s'=>∃(H' N:Hp)(kA:AV)(e:Nat)(aO:LV),Inv X ((kS,seqObj "list" kA e)::(a,seqObj "list" #[] T)::ah) σ H' s'/\Ext B N H H'/\bu aO kA.toList/\IsL X.K N aO (jI.take i)) its 0 _
  ⟨H,B,#[],0,[],I3,.refl sB,.nil,by simpa using IsL.nil⟩ ?step ?done)
 case step=>
  rintro j u s' hu ⟨H',N,kA,e,aO,J,x1,rk,ik⟩
  simp only[Nat.zero_add]at ik ⊢
  have hj:j<its.length:=(vV hu).1
  obtain⟨d,hd⟩:∃d,ds[j]? = some d:=⟨_,vU (by omega)⟩
  obtain⟨v,hv,Qb⟩:=iv.get hd
  obtain⟨kd,WO,Sz⟩:=re em hd
  obtain⟨u',Qc,ru⟩:=rv.get hv
  rw[hu]at Qc;cases Qc
  have kl:kA.size=j:=by
   have z1:=rk.length
   have z2:=ik.length
   rw[length_take]at z2
   rw[vG]at z1
   exact z1.symm.trans (z2.trans (Nat.min_eq_left (by omega)))
  refine wX (wpAny_attempt (wpAny_mono (HG _ s' H' N v u d kd J x1.hh x1.bn x1.nh (Qb.mono x1.bn) ru Sz) (λw PZ hw=>?_) λ_ _ hF=>hF.elim))
  obtain⟨v',WP,J',WQ,N',x2,i2⟩:=hw
  have pk:=J'.pin (kS,seqObj "list" kA e) (mY _ mX)
  obtain⟨c2,KW⟩:∃c2,(PZ.heap.update kS (Obj.mapSeq (·.push w))).get? kS=some (seqObj "list" (kA.push w) c2):=⟨_,get?_update_seq pk.1 (·.push w)⟩
  have u2:=vW PZ.heap kS (Obj.mapSeq (·.push w))
  refine wX (listUpdate_at pk.1 rfl ?_ (by rw[sizeLine_eq];omega) (vR (le_of_eq (Array.size_push ..)) (by rw[sizeLine_eq];omega)))
  refine wY ⟨rfl,WP,N',kA.push w,c2,aO++[v'],iu (t':=PZ.toks) J' k0 kp (λb q n z=>(u2.2 b n).trans z) KW dv,x1.trans x2,?_,?_⟩
  ·rw[toList_push];exact vv WQ rk
  ·rw[take_add_one,WO];exact(ik.mono x2.bn).append (.cons i2 .nil)
 case done=>
  rintro s' ⟨H',N,kA,e,aO,J,x1,rk,ik⟩
  have Uu:IsL X.K N aO jI:=by
   have z:jI.take (0+its.length)=jI:=List.take_of_length_le (by omega)
   rw[z]at ik;exact ik
  have pk:=J.pin (kS,seqObj "list" kA e) (mY _ mX)
  have WR:=J.pin (a,seqObj "list" #[] T) (mY _ (mZ _ mX))
  have RL:H' a=none:=WR.2.1
  have kz:kA.toList.length=its.length:=by rw[←rk.length,Uu.length];omega
  have Uv:kA.size=its.length:=by rw[←vG];exact kz
  refine wX (listItems_at pk.1 rfl ?_)
  have Uw:=M.ask J rk (Uu.mono x1.nh) ek hf hc
  -- the end of the sort,for a permutation p
  have Qd:∀(st:SortSt)(p:Array Nat),arrOf st=p.map (kas_item (kA.toList.toArray.zip its.toArray))->failedOf st=none->pZ its.length p->Up (HC ks) p its.length ->
    wpAny (model X.prog X.w) A (ksk_tail a false T (.ref kS) st) P E s':=λst p ea ef ap up=>by
   have eo:(arrOf st).map (·.2)=List.toArray (p.toList.map λi=>its.getD i Value.none):=kat_snds kz ea
   have Hs:∀i∈p.toList,i<vs.length:=λi hi=>by
    have:=mem_range.mp (ap.perm.mem_iff.mp hi)
    omega
   obtain⟨c3,WS⟩:∃c3,(s'.heap.update kS (Obj.mapSeq λ_=>(#[]:AV))).get? kS=some (seqObj "list" #[] c3):=⟨_,get?_update_seq pk.1 λ_=>#[]⟩
   have u3:=vW s'.heap kS (Obj.mapSeq λ_=>(#[]:AV))
   have J3:=kK (iu (t':=s'.toks) J k0 kp (λb q n z=>(u3.2 b n).trans z) WS dv)
   have S1:=J3.pin (a,seqObj "list" #[] T) (mY _ mX)
   obtain⟨c4,Ux⟩:∃c4,((s'.heap.update kS (Obj.mapSeq λ_=>(#[]:AV))).update a (Obj.mapSeq λ_=>(arrOf st).map (·.2))).get? a=some (seqObj "list" ((arrOf st).map (·.2)) c4):=⟨_,get?_update_seq S1.1 λ_=>(arrOf st).map (·.2)⟩
   have u4:=vW (s'.heap.update kS (Obj.mapSeq λ_=>(#[]:AV))) a (Obj.mapSeq λ_=>(arrOf st).map (·.2))
   have so:((arrOf st).map (·.2)).size=its.length:=by rw[eo];simp only[vH,vI,vG,ap.size]
   unfold ksk_tail
   try dsimp only
   refine wX (listUpdate_at pk.1 rfl ?_ (by rw[Uv,sizeLine_eq];omega) (uN _))
   refine wX (wpAny_letGo ?_)
   refine wX (seqEpoch_at S1.1 rfl ?_)
   refine wX (listUpdate_at S1.1 rfl ?_ (uN _) (by simp only[uV,if_false];rw[so,sizeLine_eq];omega))
   rw[ef]
   simp only[bne_self_eq_false,uV,if_false]
   refine wY (h p _ H' N ap up (IV (s:={ s' with heap:=s'.heap.update kS (Obj.mapSeq λ_=>(#[]:AV)) }) (t':=s'.toks) J3 h0 hp (λb q n z=>(u4.2 b n).trans z) ⟨_,Ux⟩ ?_) x1 RL)
   refine⟨by rw[vI,vG,ap.size];exact hz,p.toList.map λi=>its.getD i Value.none,c4,vt rv p.toList Hs,?_⟩
   rw[←eo];exact Ux
  unfold ksk_end
  try dsimp only
  simp only[uV,if_false]
  have WT:kA=kA.toList.toArray:=by simp
  by_cases O:its.toArray.size<2
  ·rw[if_pos O,if_pos O]
   refine wX (wY ?_)
   rw[StateT.run_pure]
   refine wX (wY ?_)
   have Uy:its.length<2:=by simpa using O
   refine Qd _ (List.toArray (List.range its.length)) ?_ rfl ⟨by simp,by simp⟩ ?_
   ·show kA.zip its.toArray=_
    have:=kas_range (kA.toList.toArray.zip its.toArray)
    rw[show(kA.toList.toArray.zip its.toArray).size=its.length by simp[Uv]]at this
    rw[this]
   ·intro i j hij hj
    have:i=j:=by omega
    subst this;exact le_refl _
  ·rw[if_neg O,if_neg O]
   have S2:2<=its.length:=by simp at O;omega
   rw[WT]
   refine wX (Uw.1 (by omega) ?_)
   obtain⟨p,r1,r2,r3⟩:=FI (n:=its.length) (rk:=HC ks) (by omega)
   refine wX (wpAny_mono (kat_run (E:=E) (ks:=kA.toList) (vs:=its) (κ:=tuples' true) (s:=s') (Q:=λU s2=>s2=s'/\arrOf U=p.map (kas_item (kA.toList.toArray.zip its.toArray))/\failedOf U=none)
    (G:=λp' s2=>p'=p/\s2=s') kz S2 NK (λp' U s2 _ e2 e3 e4=>by
     obtain⟨rfl,rfl⟩:=e4
     exact⟨rfl,e2,e3⟩) (Run.wp (λs2=>s2=s') (λi j C s2 hi hj e hC=>Uw.2 i j C s2 (by omega) (by omega) e hC) r1 rfl λs2 e=>⟨rfl,e⟩)) (λr s2 hr=>?_) λ_ _ z=>z)
   obtain⟨⟨⟩,U⟩:=r
   obtain⟨rfl,e2,e3⟩:=hr
   exact Qd U p e2 e3 r2 r3
end
theorem zk {α G:Type}{f:α->G}:∀ {l:List α},(l.map f).Nodup->l.Nodup
 |[],_=>nodup_nil
 |a::l,h=>by
  rw[uY,nodup_cons]at h;exact nodup_cons.mpr ⟨λz=>h.1 (uS ⟨a,z,rfl⟩),zk h.2⟩
def j8 (ks:List (List At))(ds:LD):LD:=(eU (λp:List At×D=>cM p.1) (ks.zip ds)).map (·.2)
def FR {α T:Type}(d:α)(e:T):∀ {M:List α}{G:List T},M.length=G.length->(List.range G.length).map (λi=>(M.getD i d,G.getD i e))=M.zip G:=λ{M G} h=>by
 apply ext_getElem?;intro i;by_cases hi:i<G.length
 ·have O:i<M.length:=by omega
  have:=(getElem?_zip_eq_some (z:=(M[i],G[i]))).mpr ⟨vU O,vU hi⟩;rw[this];simp[hi,O]
 ·simp[hi,h]
def IW {α O:Type}{G:List α}{M:List O}(nd:G.Nodup){a:α}{b c:O}(h1:(a,b)∈G.zip M)(h2:(a,c)∈G.zip M):b=c:=by
 obtain⟨i,hi⟩:=mem_iff_getElem?.mp h1;obtain⟨j,hj⟩:=mem_iff_getElem?.mp h2;obtain⟨i1,i2⟩:=getElem?_zip_eq_some.mp hi;obtain⟨U,T⟩:=getElem?_zip_eq_some.mp hj;obtain⟨li,ei⟩:=vV i1;obtain⟨lj,ej⟩:=vV U;have:i=j:=(List.getElem_inj nd).mp (ei.trans ej.symm);subst this;rw[i2]at T;exact vK T
def Be {ds:LD}{ks:List (List At)}{p:Array Nat}(hl:ks.length=ds.length)(hc:eV ks=true)(nd:ks.Nodup)(G:pZ ds.length p)(U:Up (HC ks) p ds.length):p.toList.map (λi=>ds.getD i .non)=j8 ks ds:=by
 unfold j8;have e:p.toList.map (λi=>(ks.getD i [],ds.getD i .non))=eU (λp:List At×D=>cM p.1) (ks.zip ds):=by
  apply kJ
  ·intro x hx y hy e;have mx:=(of_mem_zip hx).1;have my:=(of_mem_zip hy).1;have:=o5 hc mx my e;obtain⟨k1,d1⟩:=x;obtain⟨k2,d2⟩:=y;have z:k1=k2:=this;subst z;rw[IW nd hx hy]
  ·have:=G.perm.map (λi=>(ks.getD i [],ds.getD i D.non));rw[FR [] D.non hl]at this;exact this
  ·rw[List.pairwise_iff_getElem];intro i j hi hj M;have hsz:=G.size;have O:i<p.size:=by simpa using hi
   have T:j<p.size:=by simpa using hj
   have:=U i j (le_of_lt M) (by omega);unfold c7 HC at this;have gi:p.getD i 0=p[i]:=by rw[getD_eq_getD_getElem?,getElem?_eq_getElem O];rfl
   have gj:p.getD j 0=p[j]:=by rw[getD_eq_getD_getElem?,getElem?_eq_getElem T];rfl
   have lj:=G.lt (k:=j) (by omega);have mj:ks.getD (p.getD j 0) []∈ks:=by
    have h':p.getD j 0<ks.length:=by omega
    rw[vF,vU h'];exact getElem_mem h'
   have nl:¬cM (ks.getD (p.getD j 0) [])<cM (ks.getD (p.getD i 0) []):=λz=>by
    have:=Ch (cs:=ks.map cM) (uS ⟨_,mj,rfl⟩) z;omega
   simp only[List.getElem_map,Array.getElem_toList];unfold HB;rw[←gi,←gj];exact nl
 rw[←e,uP];rfl
@[simp] def xH (kd:LD->Option (List (List At)))(ok:List (List At)->Bool)(f:FE)(M:Env->D->Option D):FE:=λρ=>(f ρ).bind λx=>match x.1 with
 |.lst ds=>(j7 (M ρ) ds).bind λG=>(kd G).bind λks=>if ks.length<64/\eV ks=true/\ok ks=true/\(ks.map cM).Nodup then some (.lst (j8 ks ds),true)else none
 |_=>none
@[simp] abbrev rf:FE->(Env->D->Option D)->FE:=xH dM fO
section
variable {X:Cx}{e ke:Expr}{p pos kp:Pos}
def FU {kd:LD->Option (List (List At))}{ok:List (List At)->Bool}(M:KK X X.A.in1.in1 kd ok){f:FE}{kf:Env->D->Option D}(hm:X.mg "sorted" = none)(he:JE X e f)(hk:JK X X.A.in1.in1 ke kf)(hg:Gl X "sorted":=by rfl)
  (S3:starEach [e] X.env=[(false,eval e X.env)]:=by rfl) (S4:backTo pos (starEach [e] X.env)=(false,eval e X.env)::backTo pos (starEach [] X.env):=by rfl) (O:(backTo pos (starEach [e] X.env)).any (·.1)=false:=by rfl)
  (Ht:(backToKw pos (keywordEach [⟨some "key",ke,kp⟩] X.env)).all (·.1.isSome)=true:=by rfl) (S5:(backToKw pos (keywordEach [⟨some "key",ke,kp⟩] X.env)).any (·.1.isNone)=false:=by rfl)
  (S6:(backToKw pos (keywordEach [⟨some "key",ke,kp⟩] X.env)).filterMap (·.1)=[("key" : Str)]:=by rfl):
  JE X (.Call (.Name "sorted" p) [e] [⟨some "key",ke,kp⟩] pos) (xH kd ok f kf):=by
 intro ah s σ H Q I h;obtain⟨B,ρ,d,b,sB,rep,G,q⟩:=h;obtain⟨⟨xd,xb⟩,ex,G⟩:=oX G;cases xd<;>try (cases G;done)
 rename_i ds;obtain⟨jI,em,G⟩:=oX G;obtain⟨ks,ek,G⟩:=oX G;split at G
 ·rename_i hh;obtain⟨NK,hc,hf,nd⟩:=hh;cases G
  refine wpAny_Call_Name_kw (je I hg hm (u:=.builtin "sorted") rfl ?_);refine callWith_kw (c9 ((gB he jf S3) pos ah s σ H (λvs H1=>∃v N,vs=[v]/\Ext B N H H1/\Is X.K N v (.lst ds)) I ⟨B,ρ,_,_,sB,rep,ex,λv H1 N T i1 _=>⟨v,N,rfl,T,i1⟩⟩) λus s1 hA=>?_) S4 O Ht S5;obtain⟨WU,H1,I1,r1,v,N,rfl,T,i1⟩:=hA;obtain⟨u,rfl,ru⟩:=kg r1;refine kws_cons (hk ah s1 σ H1 N ρ _ _ I1 T.nh (rep.mono T.bn) λqa H2 s2 I2 m2 HG=>kws_nil ?_);rw[S6];show wpAny _ _ (call (.builtin "sorted") [u] [(("key" : Str),.ref qa)]) _ _ _;cases i1
  rename_i l vs hq il;cases ru
  have sN:bc N H2:=T.nh.trans m2;obtain⟨its,rv,pl,hz⟩:=I2.list (sN.seq hq);have MV:vs.length=its.length:=rv.length;have NJ:ds.length=vs.length:=il.length.symm;have WN:jI.length=ds.length:=kL em;have Ut:ks.length=jI.length:=M.len ek;have S7:its.length<64:=by omega
  refine call_function_entry_kw kind_sorted plain_sorted entry_sorted (ksk_s1 _ _) ?_;unfold Builtin.«sorted»;refine wX (m:=checkCount "sorted" 1 1 _) (wY (wX (collect_list pl.isList (wX (wpAny_newList ?_ (by rw[sizeLine_eq];omega))) (by rw[sizeLine_eq];omega))));let h1:Heap:=(s2.heap.push (seqObj "list" #[] 0)).update s2.heap.objs.size (Obj.mapSeq (· ++ its.toArray));have hsz:h1.objs.size=s2.heap.objs.size+1:=by show(Heap.update _ _ _).objs.size=_;rw[Heap.size_update,size_push']
  have U:∀b o,s2.heap.get? b=some o->h1.get? b=some o:=λb o q=>(Heap.get?_update_ne _ _ _ _ (vS (vX q))).trans (vZ _ q);have I3:Inv X ((h1.objs.size,seqObj "list" its.toArray 0)::ah) σ H2 { s2 with heap:=h1.push (seqObj "list" its.toArray 0) } :=
   qh (t':=s2.toks) I2 (λb u q=>vZ _ (U b u q)) (by rw[hsz];exact le_succ _) (vY _ rfl) dv
  have p3:=I3.pin (h1.objs.size,seqObj "list" its.toArray 0) (mY _ mX);show wpAny (model X.prog X.w) X.A.in1 (holding [.ref h1.objs.size] (call (.builtin "list.sort") [.ref h1.objs.size] [(("key" : Str),.ref qa)])>>=_) _ _ { s2 with heap:=h1.push (seqObj "list" its.toArray 0) };refine wX (wpAny_holding (wpAny_call_entry_kw slot_list_sort ⟨_,p3.1,rfl⟩ entry_list_sort ?_ (ksk_l1 _ _)));show wpAny (model X.prog X.w) X.A.in1.in1 (Builtin.«list.sort» ⟨[.ref h1.objs.size],[(Str.ofString "key",.ref qa)]⟩) _ _ _;rw[ksk_t1];refine Bd I3 (vR I2.sz (by rw[hsz];exact le_succ _)) (λq hq=>by rw[hsz];exact vS (lt_succ_of_lt (vX (I2.pin q hq).1))) HG rv il sN M em ek hc hf S7 λpm s' H' N' ap up J x3 hn=>⟨_,rfl,wY ⟨_,rfl,?_⟩⟩;have O:its.length=ds.length:=by omega
  rw[O]at ap up;have er:=Be (by omega) hc (zk nd) ap up;have Hs:∀i∈pm.toList,i<ds.length:=λi hi=>mem_range.mp (ap.perm.mem_iff.mp hi);have ip:=zh (il.mono x3.bn) pm.toList Hs;rw[er]at ip;have x4:Ext B N' H H':=(T.trans (.grow T.nh m2)).trans x3;have hN:N' h1.objs.size=none:=x3.nh.free hn;have x5:=x4.trans (Ext.laid (o:=.lst (pm.toList.map λi=>vs.getD i .non)) x3.nh hn);exact⟨.ref h1.objs.size,_,J,rfl,q _ _ _ x5 (.lst (iQ.of aC) (ip.mono (Ext.laid (o:=.lst (pm.toList.map λi=>vs.getD i .non)) x3.nh hn).bn)) λ_=>⟨_,_,_,rfl,rfl,x4.hh.free hn,aC,ip.mono (Ext.laid (o:=.lst (pm.toList.map λi=>vs.getD i .non)) x3.nh hn).bn⟩⟩
 ·cases G
end
noncomputable def UV {f:String->CmpOp->Builtin}(_:f "__lt__" .Lt=Builtin.«tuple.__lt__»):=f
noncomputable def Tl:String->CmpOp->Builtin:=UV rfl
section
variable {prog:Program}{w:World}{A:Around}{E:QV}{s:Shared}{op:CmpOp}
def ir.type (h:ir s.heap xs v):s.TypeIs v "tuple":=by
 obtain⟨a,o,its,n,rfl,G,hc,_⟩:=h;exact⟨o,G,hc⟩
inductive GeW (prog:Program)(w:World)(A:Around)(s:Shared)(op:CmpOp)(jv r:Bool):List (Value×Value)->Prop
 |nil (h:jv=r):GeW prog w A s op jv r []
 |eq {u v:Value}{l:List (Value×Value)}(h:SeqAt.EqAt A s u v true) (t:GeW prog w A s op jv r l):GeW prog w A s op jv r ((u,v)::l)
 |ne {u v:Value}{l:List (Value×Value)}(h:SeqAt.EqAt A s u v false) (t:∀(Q E:Value->Shared->Prop),Q (.bool r) s->wpAny (model prog w) A (richCompare op u v) Q E s):GeW prog w A s op jv r ((u,v)::l)
def IX {nm:String}(O:s.TypeIs (.ref b) "tuple")(T:s.heap.get? a=some oa)(U:oa.data=.seq its na)(WV:s.heap.get? b=some ob)(Sr:ob.data=.seq B8 nb)
  (W:GeW prog w A s op jv r (its.toList.zip B8.toList)) (hz:Builtin.Tuple.tupleCompareSizes op its.size B8.size=.bool jv) (WW:op=.Lt∨op=.Gt∨op=.GtE) (q:P (.done (.ret (.bool r))) s):wpAny (model prog w) A (Tl nm op ⟨[.ref a,.ref b],[]⟩) P E s:=by
 show wpAny _ _ (isInstance (.ref _) (.type "tuple")>>=_) _ _ s;refine wX (wpAny_isInstance O isSubtype_tuple_tuple ?_);simp only[Bool.not_true,uV,if_false];refine wX (wpAny_tupleItemsOf T U ?_);refine wX (wpAny_tupleItemsOf WV Sr ?_);refine wX ?_;refine wpAny_forIn_list _ (λay z s'=>z.1=none/\s'=s/\GeW prog w A s op jv r ay) _ ?_ ?_ _ _ ⟨rfl,rfl,W⟩
 ·rintro⟨u,v⟩ ay z s' ⟨hz,rfl,W⟩;cases W with
  |eq h t=>
   refine wX (h _ _ _ _ ?_);simp only[Bool.not_true,uV,if_false];exact wY ⟨rfl,rfl,t⟩
  |ne h t=>
   refine wX (h _ _ _ _ ?_);simp only[Bool.not_false,if_true];have t:=t (λv G=>v=.bool r/\G=s') E ⟨rfl,rfl⟩;rcases WW with rfl|rfl|rfl<;>exact wX (wpAny_rule (wX (wpAny_mono t (λv G hv=>by obtain⟨rfl,rfl⟩:=hv;exact wX (wY (wY (wY q)))) λ_ _ z=>z)))
 ·rintro⟨z1,z2⟩ s' ⟨M,rfl,W⟩;simp only at M;subst M;refine wY ?_;cases W with
  |nil h=>
   show P (.done (.ret (Builtin.Tuple.tupleCompareSizes op its.size B8.size))) s';rw[hz,h];exact q
structure CmR (prog:Program)(w:World)(A:Around)(s:Shared)(op:CmpOp)(R:List At->List At->Bool->Prop)(fl:Nat->Nat->Bool):Prop where
 ei:∀ {a xs ys r},R (.i a::xs) (.i a::ys) r->R xs ys r
 es:∀ {a xs ys r},R (.s a::xs) (.s a::ys) r->R xs ys r
 ni:∀ {a c xs ys r},a≠c->R (.i a::xs) (.i c::ys) r->∀t u (Q E:Value->Shared->Prop),Q (.bool r) s->wpAny (model prog w) A (richCompare op (.int a t) (.int c u)) Q E s
 ns:∀ {a c xs ys r},a≠c->R (.s a::xs) (.s c::ys) r->∀t u (Q E:Value->Shared->Prop),Q (.bool r) s->wpAny (model prog w) A (richCompare op (.str a t) (.str c u)) Q E s
 mx:∀ {a c xs ys r},¬R (.i a::xs) (.s c::ys) r/\¬R (.s c::xs) (.i a::ys) r
 en:∀ {xs r},(R [] xs r->fl 0 xs.length=r)/\(R xs [] r->fl xs.length 0=r)
 fs:∀ {m n},fl (m+1) (n+1)=fl m n
theorem rg (C:CmR prog w A s op R fl):∀(xs ys:List At)(its O:LU),Paired Ay xs its->Paired Ay ys O->R xs ys r->GeW prog w A s op (fl xs.length ys.length) r (its.zip O)
 |[],_,_,_,.nil,_,h=>.nil (C.en.1 h)
 |_::_,[],_,_,.cons _ _,.nil,h=>.nil (C.en.2 h)
 |.i _::_,.s _::_,_,_,_,_,h=>absurd h C.mx.1
 |.s _::_,.i _::_,_,_,_,_,h=>absurd h C.mx.2
 |.i a::xs,.i c::ys,_,_,.cons T G,.cons U M,h=>by
  obtain⟨t,rfl⟩:=T;obtain⟨u,rfl⟩:=U;have he:=SeqAt.EqAt.int_int (A:=A) (s:=s) a t c u;rw[zip_cons_cons,vE,vE,C.fs];by_cases e:a=c
  ·subst e;rw[show(a == a)=true by simp]at he;exact .eq he (rg C xs ys _ _ G M (C.ei h))
  ·rw[show(a == c)=false by simp[e]]at he;exact .ne he (C.ni e h t u)
 |.s a::xs,.s c::ys,_,_,.cons T G,.cons U M,h=>by
  obtain⟨t,rfl⟩:=T;obtain⟨u,rfl⟩:=U;have he:=SeqAt.EqAt.str_str (A:=A) (s:=s) a t c u;rw[zip_cons_cons,vE,vE,C.fs];by_cases e:a=c
  ·subst e;rw[show(a == a)=true by simp]at he;exact .eq he (rg C xs ys _ _ G M (C.es h))
  ·rw[show(a == c)=false by simp[e]]at he;exact .ne he (C.ns e h t u)
def OP:CmR prog w A s .Lt (λxs ys r=>bp xs ys=some r) (λm n=>decide (m<n)) where
 ei h:=by rwa [bp,if_pos rfl]at h
 es h:=by rwa [bp,if_pos rfl]at h
 ni e h _ _ _ _ q:=by rw[bp,if_neg e]at h;cases h;exact PyProof.Rows.lt_int q
 ns e h _ _ _ _ q:=by rw[bp,if_neg e]at h;cases h;exact PySem.P.lt_str q
 mx:=by simp[bp]
 en:=λ{xs}=>by cases xs<;>simp[bp]
 fs:=by simp
def OQ:CmR prog w A s .Gt (λxs ys r=>bp ys xs=some r) (λm n=>decide (n<m)) where
 ei h:=by rwa [bp,if_pos rfl]at h
 es h:=by rwa [bp,if_pos rfl]at h
 ni e h _ _ _ _ q:=by rw[bp,if_neg (Ne.symm e)]at h;cases h;exact PyProof.Rows.gt_int q
 ns e h _ _ _ _ q:=by rw[bp,if_neg (Ne.symm e)]at h;cases h;exact PySem.P.gt_str q
 mx:=by simp[bp]
 en:=λ{xs}=>by cases xs<;>simp[bp]
 fs:=by simp
def FV (hx:ir s.heap xs (.ref a)):∃o its n,s.heap.get? a=some o/\o.data=.seq its n/\Paired Ay xs its.toList/\xs.length=its.size:=by
 obtain⟨M,o,its,n,e,G,hc,hd,p⟩:=hx;cases e
 exact⟨o,its,n,G,hd,p,by rw[←vG];exact gf p⟩
def K9 {nm:String}(C:CmR prog w A s op R fl)(hz:∀m n,Builtin.Tuple.tupleCompareSizes op m n=.bool (fl m n))(G:op=.Lt∨op=.Gt∨op=.GtE)(hx:ir s.heap xs (.ref a))(hy:ir s.heap ys (.ref b))(h:R xs ys r)(q:P (.done (.ret (.bool r))) s):wpAny (model prog w) A (Tl nm op ⟨[.ref a,.ref b],[]⟩) P E s:=by
 have hb:=hy.type;obtain⟨_,_,_,T,hd,p,l1⟩:=FV hx;obtain⟨_,_,_,M,O,U,l2⟩:=FV hy;exact IX hb T hd M O (rg C _ _ _ _ p U h) (by rw[l1,l2];exact hz _ _) G q
def FW (hx:ir s.heap xs x)(hy:ir s.heap ys y)(h:bp xs ys=some r)(hu:A.units<cLine)(q:Q (.bool r) s):wpAny (model prog w) A (richCompare .Lt x y) Q E s:=by
 have G:=hx.type;have ty:=hy.type;obtain⟨a,_,_,_,rfl,_⟩:=id hx;obtain⟨b,_,_,_,rfl,_⟩:=id hy;exact wpAny_richCompare_same_room (op:=.Lt) G ty slot_tuple_lt (wpAny_call_entry slot_tuple_lt G PySem.F.entry_tuple_lt (K9 OP (λ_ _=>rfl) (.inl rfl) hx hy h ⟨_,rfl,(λe=>nomatch e),q⟩) (PySem.F.args_tuple_lt_2 _ _)) hu
def OR (hx:ir s.heap xs x)(hy:ir s.heap ys y)(h:bp ys xs=some r)(hu:A.units<cLine)(q:Q (.bool r) s):wpAny (model prog w) A (richCompare .Gt x y) Q E s:=by
 have G:=hx.type;have ty:=hy.type;obtain⟨a,_,_,_,rfl,_⟩:=id hx;obtain⟨b,_,_,_,rfl,_⟩:=id hy;exact wpAny_richCompare_same_room (op:=.Gt) G ty slot_tuple_gt (wpAny_call_entry slot_tuple_gt G PySem.F.entry_tuple_gt (K9 OQ (λ_ _=>rfl) (.inr (.inl rfl)) hx hy h ⟨_,rfl,(λe=>nomatch e),q⟩) (PySem.F.args_tuple_gt_2 _ _)) hu
end
def ng:List At×D->List (List At×D)->D
 |b,[]=>b.2
 |b,x::r=>if bp b.1 x.1=some true then ng x r else ng b r
def lM:List At×D->List (List At×D)->D
 |b,[]=>b.2
 |b,x::r=>if bp x.1 b.1=some true then lM x r else lM b r
noncomputable def UW {f:String->CmpOp->Builtin}(_:f "max" .Gt=Builtin.«max.loop»):=f
noncomputable def UX:String->CmpOp->Builtin:=UW rfl
noncomputable def UY {f:String->Builtin}(_:f "max" = Builtin.«max»):=f
noncomputable def UZ:String->Builtin:=UY rfl
structure MM (nm lp:String)(ns:Str)(op:CmpOp)(lt:List At->List At->Option Bool)(go:List At×D->List (List At×D)->D):Prop where
 hn:(toString nm++toString ".loop" : String)=lp
 en:entryFor table lp=some (UX nm op)
 pl:plainId lp=true
 k2:builtinKind nm=none
 p2:plainId nm=true
 e2:entryFor table nm=some (UZ nm)
 ka:∀a v:Value,argsOk nm ⟨[a],[(Str.ofString "key",v)]⟩
 bt:bootBuiltins ns=some (.builtin nm)
 n1:ns ≠ "__name__"
 n2:(ns == ("__debug__" : Str))=false
 g0:∀b,go b []=b.2
 g1:∀b x r,go b (x::r)=if lt b.1 x.1=some true then go x r else go b r
 cg:∀ {ks:List (List At)},eV ks=true->∀ {a b},a∈ks->b∈ks->∃r,lt a b=some r
 rc:∀ {prog:Program}{w:World}{A:Around}{E:Value->Shared->Prop}{s:Shared}{xs ys:List At}{x y:Value}{r:Bool}{Q:Value->Shared->Prop},ir s.heap xs x->ir s.heap ys y->lt ys xs=some r->A.units<cLine->Q (.bool r) s->wpAny (model prog w) A (richCompare op x y) Q E s
def Tn:MM "max" "max.loop" "max" .Gt bp ng :=
 ⟨by decide,PySem.F.entry_max_loop,PySem.F.plain_max_loop,PySem.F.kind_max,PySem.F.plain_max,PySem.F.entry_max,λ_ _=>by unfold argsOk;kernel_rfl,rfl,by decide,by decide,λ_=>rfl,λ_ _ _=>rfl,λh _ _ a b=>⟨_,hV h a b⟩,OR⟩
def Rt:MM "min" "min.loop" "min" .Lt (λa b=>bp b a) lM :=
 ⟨by decide,PySem.F.entry_min_loop,PySem.F.plain_min_loop,PySem.F.kind_min,PySem.F.plain_min,PySem.F.entry_min,λ_ _=>by unfold argsOk;kernel_rfl,rfl,by decide,by decide,λ_=>rfl,λ_ _ _=>rfl,λh _ _ a b=>⟨_,hV h b a⟩,FW⟩
section
variable {X:Cx}{ah:AO}{σ:St}
def Bf (J:Inv X ((a1,o1)::(a2,o2)::ah) σ H' s'):Inv X ((a2,o2)::(a1,o1)::ah) σ H' s' :=
 J.pins_of λq hq=>J.pin q (by
  rcases vP hq with rfl|hq
  ·exact mY _ (mZ _ mX)
  ·rcases vP hq with rfl|hq
   ·exact mY _ mX
   ·exact mY _ (mZ _ (mZ _ hq)))
def rh (hp:∀q∈X.pn++ah,q.1≠a)(h:S≠a):∀q∈X.pn++((S,o)::ah),q.1≠a:=λq hq=>by
 rcases mem_append.mp hq with hq|hq
 ·exact hp q (mem_append_left _ hq)
 ·rcases vP hq with rfl|hq
  ·exact h
  ·exact hp q (mY _ hq)
def qi (I:Inv X ah σ H s)(r:bd v u)(i:Is X.K H v d)(e:ze d=some k):ir s.heap k u:=by
 have:=qg I (ys:=[v]) (ds:=[d]) (ks:=[k]) (its:=[u]) (.cons r .nil) (.cons i .nil) (by simp only[dM,e];rfl);cases this;assumption
inductive MK (X:Cx)(ah:List (Addr×Obj))(σ:St)(S It l:Addr)(o:Obj)(j:Nat)(N H:Hp)(y:List At×D)(u ku:Value)(s:Shared):Prop
 |mk (H2 N2:Hp) (v kv:V) (kd:D) (oI:Obj) (J:Inv X ((S,o)::(It,oI)::ah) σ H2 s) (Ex:s.heap.IsListIter It l (j+1)) (x:Ext N N2 H H2) (ru:bd v u) (iv:Is X.K N2 v y.2) (rk:bd kv ku) (ik:Is X.K N2 kv kd) (ek:ze kd=some y.1)
def FX {E:QV}{It:Addr}(hh:X.A.handled=none)(HG:Cn X X.A.in1 σ (.ref qa) B H1 kf)(hq:iQ X.K B l vs)(iv:IsL X.K B vs ds)(em:j7 kf ds=some jI)(ek:dM jI=some ks)(I0:X.s₀.heap.objs.size<=It)(Nc:∀q∈X.pn++((S,o)::ah),q.1≠It)
  (Nd:l≠It) (hz:(ks.zip ds)[j]? = some y) (I:Inv X ((S,o)::(It,oI)::ah) σ H s) (Ex:s.heap.IsListIter It l j) (G:Ext B N H1 H):
  wpAny (model X.prog X.w) X.A.in1 (pyNext (.ref It)) (λr s1=>∃u,r=some u/\wpAny (model X.prog X.w) X.A.in1 (call (.ref qa) [u]) (MK X ah σ S It l o j N H y u) (λ_ _=>False) s1) E s:=by
 obtain⟨its,rv,pl,_⟩:=I.list ((G.bn.trans G.nh).seq hq);obtain⟨hk,hd⟩:=getElem?_zip_eq_some.mp hz;obtain⟨v,hv,O⟩:=iv.get hd;obtain⟨kd,T,Sz⟩:=re em hd;obtain⟨u,hu,ru⟩:=rv.get hv;have NL:ze kd=some y.1:=by
  have:=vq ek (i:=j) (vV T).1;rw[vF,T,vF,hk]at this;exact this
 refine(Walks.list (prog:=X.prog) (w:=X.w) (A:=X.A.in1) hh It l Nd its.toArray).item j _ _ _ (by simpa using(vV hu).1) ⟨Ex,pl.isList⟩ λu' h' Na hP U KU=>?_;have Qc:its[j]? = some u':=by simpa using hP
 rw[hu]at Qc;cases Qc;obtain⟨M,S8,Ke,Uz⟩:=id U.1;exact⟨u,rfl,c9 (HG _ _ H N v u y.2 kd (Bf (iu (t':=Na) (Bf I) I0 Nc (λb o n e=>KU b o (by simpa using n) e) S8 (λv z=>by rw[Uz]at z;cases z))) G.hh G.bn G.nh (O.mono G.bn) ru Sz) λku s2 ⟨kv,H2,J4,rk,N2,x2,ik⟩=>
  ⟨H2,N2,v,kv,kd,M,J4,⟨M,(J4.pin (It,M) (mY _ (mZ _ mX))).1,Ke,Uz⟩,x2,ru,O.mono (G.bn.trans x2.bn),rk,ik,NL⟩⟩
def IY {nm lp:String}{ns:Str}{op:CmpOp}{lt:List At->List At->Option Bool}{go:List At×D->List (List At×D)->D}(M:MM nm lp ns op lt go){qv:Value}{l S It:Addr}{vs:LV}{ds jI:LD}{ks:List (List At)}{B H1:Hp}{kf:D->Option D}{d0:D}{R:Result->Shared->Prop}(hh:X.A.handled=none)(hu:X.A.in1.units<cLine)(HG:Cn X X.A.in1 σ qv B H1 kf)(WX:∃a,qv=.ref a)(hq:iQ X.K B l vs)(iv:IsL X.K B vs ds)
  (em:j7 kf ds=some jI) (ek:dM jI=some ks) (hc:eV ks=true) (S0:X.s₀.heap.objs.size<=S) (I0:X.s₀.heap.objs.size<=It) (Qe:∀q∈X.pn++ah,q.1≠S) (Nc:∀q∈X.pn++ah,q.1≠It) (Nb:S≠It) (Nf:S≠l) (Nd:l≠It)
  (hR:∀(s':Shared)(H' N:Hp)(v:V)(u:Value),Inv X ah σ H' s'->Ext B N H1 H'->bd v u->Is X.K N v d0->R (.ok (.ret u)) s'):
  ∀(r j:Nat)(s:Shared)(H N:Hp)(O G:Value)(vb T:V)(db U:D)(kb:List At)(c:Nat)(oI:Obj),vs.length - j=r->j<=vs.length->Inv X ((S,seqObj "list" #[O,G] c)::(It,oI)::ah) σ H s->s.heap.IsListIter It l j->Ext B N H1 H ->
   bd vb O->Is X.K N vb db->bd T G->Is X.K N T U->ze U=some kb->kb∈ks->go (kb,db) ((ks.zip ds).drop j)=d0 ->
   codeAny (model X.prog X.w) X.A (.builtin lp ⟨[.ref It,qv,.ref S],[]⟩) R s:=by
 obtain⟨qa,rfl⟩:=WX;intro r;induction r with
 |zero=>
  intro j s H N O G vb T db U kb c oI hr hj I Ex x1 r1 i1 r2 i2 ekb mk hd;have pS:=I.pin (S,seqObj "list" #[O,G] c) (mY _ mX);have sB:bc B H:=x1.bn.trans x1.nh;obtain⟨its,rv,pl,_⟩:=I.list (sB.seq hq);have hl:=pl.isList;have W:=Walks.list (prog:=X.prog) (w:=X.w) (A:=X.A.in1) hh It l Nd its.toArray;have hsz:its.toArray.size=its.length:=vH ..;have MV:vs.length=its.length:=rv.length;have NJ:ds.length=its.length:=by rw[←iv.length];exact rv.length
  have U0:ks.length=ds.length:=by rw[lx ek,kL em]
  have Sy:db=d0:=by
   rw[List.drop_of_length_le (by rw[length_zip];omega)]at hd;rw[M.g0]at hd;exact hd
  subst Sy;refine codeAny_builtin M.en ?_;rw[Around.under_plainId M.pl _];show wpAny _ X.A.in1 (seqItems? (.ref S)>>=_) _ _ _;refine wX (wpAny_seqItems pS.1 rfl ?_);show wpAny _ X.A.in1 (tryCatch (pyNext (.ref It)) _>>=_) _ _ _;refine wX (wpAny_tryCatch (W.done _ _ _ ⟨by rw[hsz,show its.length=j by omega];exact Ex,hl⟩ λh' Na KU=>?_));have J1:Inv X ((It,oI)::(S,seqObj "list" #[O,G] c)::ah) σ H s:=Bf I;have S9:∀q∈X.pn++((S,seqObj "list" #[O,G] c)::ah),q.1≠It:=rh Nc Nb;have J2:Inv X ((S,seqObj "list" #[O,G] c)::ah) σ H { s with heap:=h',toks:=Na } :=
   (kK J1).turned (t':=Na) (λb o n e=>KU b o (by simpa using n) e) (J1.pin (It,oI) (mY _ mX)).2.1 (J1.pin (It,oI) (mY _ mX)).2.2.1 (.inr I0) (o6 J1) S9
  have U1:=J2.pin (S,seqObj "list" #[O,G] c) (mY _ mX);obtain⟨c2,KW⟩:∃c2,(h'.update S (Obj.mapSeq λ_=>(#[]:AV))).get? S=some (seqObj "list" #[] c2):=⟨_,get?_update_seq U1.1 λ_=>#[]⟩;have u2:=vW h' S (Obj.mapSeq λ_=>(#[]:AV));show wpAny _ X.A.in1 (updateSeq S (λ_=>#[])>>=_) _ _ _;refine wX ?_;refine wpAny_updateSeq U1.1 rfl (wX (wpAny_letGo (wY ?_)));exact hR _ H N vb O (kK (iu (t':=Na) J2 S0 Qe (λb o n e=>(u2.2 b n).trans e) KW dv)) x1 r1 i1
 |succ r ih=>
  intro j s H N O G vb T db U kb c oI hr hj I Ex x1 r1 i1 r2 i2 ekb mk hd;have yj:j<(ks.zip ds).length:=by rw[length_zip,lx ek,kL em,←iv.length];omega
  have pS:=I.pin (S,seqObj "list" #[O,G] c) (mY _ mX);have hz:=vU yj;rw[List.drop_eq_getElem_cons yj,M.g1]at hd;generalize (ks.zip ds)[j]=y at hz hd;have hm:y.1∈ks:=vL (getElem?_zip_eq_some.mp hz).1;obtain⟨r,SA⟩:=M.cg hc mk hm;refine codeAny_builtin M.en ?_;rw[Around.under_plainId M.pl _];show wpAny _ X.A.in1 (seqItems? (.ref S)>>=_) _ _ _;refine wX (wpAny_seqItems pS.1 rfl ?_);show wpAny _ X.A.in1 (tryCatch (pyNext (.ref It)) _>>=_) _ _ _;refine wX (wpAny_tryCatch (c9 (FX hh HG hq iv em ek I0 (rh Nc Nb) Nd hz I Ex x1) λ_ s1 ⟨u,e,h1⟩=>?_));subst e;show wpAny _ X.A.in1 (tryCatch (holding [u] (call (.ref qa) [u])) _>>=_) _ _ _;refine wX (wpAny_tryCatch (wpAny_holding (wpAny_mono h1 (λku s2 ⟨H2,N2,v,kv,kd,QF,J4,Qf,x2,ru,Qb,rk,ik,NL⟩=>?_) λ_ _ z=>z.elim)));have t1:=qi J4 rk (ik.mono x2.nh) NL;have t2:=qi J4 r2 (i2.mono (x2.bn.trans x2.nh)) ekb;show wpAny _ X.A.in1 (tryCatch (holding [u,ku] (richCompare op ku G>>=_)) _>>=_) _ _ _;refine wX (wpAny_tryCatch (wpAny_holding (wX (M.rc t1 t2 SA hu ?_))));refine wX (wpAny_holding (wpAny_truthy_bool ?_));refine wX (wpAny_letGo (wY ?_));cases r with
  |true=>
   rw[if_pos SA]at hd;have u2:=vW s2.heap S (Obj.mapSeq λ_=>#[u,ku]);simp only[if_true];have Qg:=J4.pin (S,seqObj "list" #[O,G] c) (mY _ mX);refine wX (wpAny_updateSeq Qg.1 rfl (wX (wpAny_letGo ?_)));rw[M.hn];obtain⟨o,g1,g2⟩:=Qf;exact wY ⟨plainId_quiet M.pl _,ih (j+1) _ H2 N2 u ku v kv y.2 kd y.1 _ QF (by omega) (by omega) (iu (t':=s2.toks) J4 S0 (rh Qe Nb.symm) (λb o n e=>(u2.2 b n).trans e) (get?_update_seq Qg.1 λ_=>#[u,ku]) dv) ⟨o,(u2.2 It Nb.symm).trans g1,g2⟩ (x1.trans x2) ru Qb rk ik NL hm hd⟩
  |false=>
   rw[if_neg (by rw[SA];simp)]at hd;simp only[uV,if_false];refine wX (wpAny_letGo ?_);rw[M.hn];exact wY ⟨plainId_quiet M.pl _,ih (j+1) _ H2 N2 O G vb T db U kb c QF (by omega) (by omega) J4 Qf (x1.trans x2) r1 (i1.mono x2.bn) r2 (i2.mono x2.bn) ekb mk hd⟩
end
@[simp] def Mq (go:List At×D->List (List At×D)->D)(f:FE)(M:Env->D->Option D):FE:=λρ=>(f ρ).bind λx=>match x.1 with
 |.lst ds=>(j7 (M ρ) ds).bind λG=>(dM G).bind λks=>if eV ks=true then match ks.zip ds with
  |[]=>none
  |y::r=>some (go y r,false)
  else none
 |_=>none
@[simp] def vw:=Mq ng
@[simp] def vx:=Mq lM
section
variable {X:Cx}{e ke:Expr}{p pos kp:Pos}
def zm {nm lp:String}{ns:Str}{op:CmpOp}{lt:List At->List At->Option Bool}{go:List At×D->List (List At×D)->D}(M:MM nm lp ns op lt go){f:FE}{kf:Env->D->Option D}{k:Nat}(hm:X.mg ns=none)(he:JE X e f)(hk:JK X X.A.in1 ke kf)(hr:eP k X.A)(hg:Gl X ns:=by rfl)
  (S3:starEach [e] X.env=[(false,eval e X.env)]:=by rfl) (S4:backTo pos (starEach [e] X.env)=(false,eval e X.env)::backTo pos (starEach [] X.env):=by rfl) (Kk:(backTo pos (starEach [e] X.env)).any (·.1)=false:=by rfl)
  (Ht:(backToKw pos (keywordEach [⟨some "key",ke,kp⟩] X.env)).all (·.1.isSome)=true:=by rfl) (S5:(backToKw pos (keywordEach [⟨some "key",ke,kp⟩] X.env)).any (·.1.isNone)=false:=by rfl)
  (S6:(backToKw pos (keywordEach [⟨some "key",ke,kp⟩] X.env)).filterMap (·.1)=[("key" : Str)]:=by rfl):
  JE X (.Call (.Name ns p) [e] [⟨some "key",ke,kp⟩] pos) (Mq go f kf):=by
 intro ah s σ H Q I h;obtain⟨B,ρ,d,b,sB,rep,G,q⟩:=h;obtain⟨⟨xd,xb⟩,ex,G⟩:=oX G;cases xd<;>try (cases G;done)
 rename_i ds;obtain⟨jI,em,G⟩:=oX G;obtain⟨ks,ek,G⟩:=oX G;split at G
 ·rename_i hc;split at G
  ·cases G
  ·rename_i y ay ez;cases G
   refine wpAny_Call_Name_kw (je I hg hm M.bt ?_ M.n1 M.n2);refine callWith_kw (c9 ((gB he jf S3) pos ah s σ H (λvs H1=>∃v N,vs=[v]/\Ext B N H H1/\Is X.K N v (.lst ds)) I ⟨B,ρ,_,_,sB,rep,ex,λv H1 N T i1 _=>⟨v,N,rfl,T,i1⟩⟩) λus s1 hA=>?_) S4 Kk Ht S5;obtain⟨WU,H1,I1,r1,v,N,rfl,T,i1⟩:=hA;obtain⟨u,rfl,ru⟩:=kg r1;refine kws_cons (hk ah s1 σ H1 N ρ _ _ I1 T.nh (rep.mono T.bn) λU H2 s2 I2 m2 HG=>kws_nil ?_);rw[S6];show wpAny _ _ (call (.builtin nm) [u] [(("key" : Str),.ref U)]) _ _ _;cases i1
   rename_i l vs hq il;cases ru
   have sN:bc N H2:=T.nh.trans m2;obtain⟨its,rv,pl,hz⟩:=I2.list (sN.seq hq);have QG:l<s2.heap.objs.size:=by
    obtain⟨ol,QC,_⟩:=pl.isList;exact vX QC
   have z0:(ks.zip ds)[0]? = some y:=by rw[ez];rfl
   have WY:=vL (getElem?_zip_eq_some.mp z0).1;refine kmk_tree M.k2 M.p2 M.e2 (M.ka _ _) ?_;show wpAny _ X.A.in1 (Builtin.Builtins.bindParams nm ["key","default"] 0 ⟨[],[(Str.ofString "key",.ref U)]⟩>>=_) _ _ s2;refine wX (wpAny_of_eq (show Builtin.Builtins.bindParams nm ["key","default"] 0 ⟨[],[(Str.ofString "key",.ref U)]⟩=pure [some (.ref U),none]from rfl) ?_);refine wX (wY ?_);refine wX (wpAny_pyIter_list pl.isList ?_);refine wX (wpAny_newList ?_ (uN _));rw[M.hn];let It:Addr:=s2.heap.objs.size;let oI:Obj:={ cls:=.type "list_iterator",data:=.fields #[.ref l,.int 0 0] };let S:Addr:=(s2.heap.push oI).objs.size;have hS:S=s2.heap.objs.size+1:=size_push' ..;have O:S≠It:=by rw[hS];exact ne_of_gt (lt_succ_self _)
   have J1:Inv X ((It,oI)::ah) σ H2 { s2 with heap:=s2.heap.push oI }:=qh (t':=s2.toks) I2 (λb u q=>vZ _ q) (vT _) (vY _ rfl) (λv z=>by cases z);have J2:Inv X ((S,seqObj "list" #[] 0)::(It,oI)::ah) σ H2 { s2 with heap:=(s2.heap.push oI).push (seqObj "list" #[] 0) }:=qh (s:={ s2 with heap:=s2.heap.push oI }) (t':=s2.toks) J1 (λb u q=>vZ _ q) (vT _) (vY _ rfl) dv;have I0:X.s₀.heap.objs.size<=It:=I2.sz;have S0:X.s₀.heap.objs.size<=S:=by rw[hS];exact le_succ_of_le I2.sz
   have Nc:∀q∈X.pn++ah,q.1≠It:=λq hq=>vS (vX (I2.pin q hq).1);have Qe:∀q∈X.pn++ah,q.1≠S:=λq hq=>by rw[hS];exact vS (lt_succ_of_lt (vX (I2.pin q hq).1))
   have Nd:l≠It:=vS QG;have Nf:S≠l:=by rw[hS];exact ne_of_gt (lt_succ_of_lt QG)
   have hh:X.A.handled=none:=hr.hd;have hu:X.A.in1.units<cLine:=by have:=hr.un;show X.A.units+1<cLine;omega
   have pS:=J2.pin (S,seqObj "list" #[] 0) (mY _ mX);have pI:=J2.pin (It,oI) (mY _ (mZ _ mX));refine wY ⟨plainId_quiet M.pl _,?_⟩;refine codeAny_builtin M.en ?_;rw[Around.under_plainId M.pl _];show wpAny _ X.A.in1 (seqItems? (.ref S)>>=_) _ _ { s2 with heap:=(s2.heap.push oI).push (seqObj "list" #[] 0) };refine wX (wpAny_seqItems pS.1 rfl ?_);show wpAny _ X.A.in1 (tryCatch (pyNext (.ref It)) _>>=_) _ _ _;refine wX (wpAny_tryCatch (c9 (FX hh HG hq il em ek I0 (rh Nc O) Nd z0 J2 ⟨oI,pI.1,rfl,rfl⟩ (.refl sN)) λ_ s1 ⟨u,e,h1⟩=>?_));subst e;show wpAny _ X.A.in1 (tryCatch (holding [u] (call (.ref U) [u])) _>>=_) _ _ _;refine wX (wpAny_tryCatch (wpAny_holding (wpAny_mono h1 (λku s3 ⟨H3,N3,v,kv,kd,QF,J4,⟨o,g1,g2⟩,x3,ru,Qb,rk,ik,NL⟩=>?_) λ_ _ z=>z.elim)));have Qg:=J4.pin (S,seqObj "list" #[] 0) (mY _ mX);have u2:=vW s3.heap S (Obj.mapSeq λ_=>#[u,ku]);show wpAny _ X.A.in1 (updateSeq S (λ_=>#[u,ku])>>=_) _ _ _;refine wX (wpAny_updateSeq Qg.1 rfl ?_);rw[M.hn];have SD:1<=vs.length:=by
    have:=congrArg List.length ez;rw[length_zip,vE,←il.length]at this;omega
   exact wY ⟨plainId_quiet M.pl _,IY M (S:=S) (It:=It) hh hu HG ⟨U,rfl⟩ hq il em ek hc S0 I0 Qe Nc O Nf Nd (λs' H' N' v' u' J' x' r' i'=>⟨v',H',J',r',q _ _ _ ((T.trans (.grow T.nh m2)).trans x') i' (by simp)⟩) _ 1 _ H3 N3 u ku v kv y.2 kd y.1 _ QF rfl SD
    (iu (t':=s3.toks) J4 S0 (rh Qe O.symm) (λb o n e=>(u2.2 b n).trans e) (get?_update_seq Qg.1 λ_=>#[u,ku]) dv) ⟨o,(u2.2 It O.symm).trans g1,g2⟩ x3 ru Qb rk ik NL WY (by rw[ez];rfl)⟩
 ·cases G
end
section
variable {X:Cx}
@[simp] def Lf:D->D->OB
 |.tup xs,.tup ys=>(jR xs).bind λG=>(jR ys).bind λbs=>(bp G bs).map λr=>(.bl r,false)
 |_,_=>none
def OS (hu:X.A.units+40<cLine):dQ X (compareOp .Lt) (rD X.K Lf):=by
 intro ah s σ H x y v u Q I M O q;obtain⟨B,dx,T,d,b,G,U,iy,e,q⟩:=q;cases dx<;>try (simp[Lf]at e;done)
 cases T<;>try (simp[Lf]at e;done)
 simp only[Lf]at e;obtain⟨as,e1,e⟩:=oX e;obtain⟨bs,e2,e⟩:=oX e;obtain⟨r,e3,e⟩:=oY e;cases e
 show wpAny _ _ (richCompare .Lt v u) _ _ _;exact FW (qi I M (U.mono G) e1) (qi I O (iy.mono G) e2) e3 (by omega) ⟨.bl r,H,I,rfl,q.one G (.bl r)⟩
end
end DL
namespace DL
open PySem PySem.Spec PyProof.Rows L2
section
variable {X:Cx}
@[simp] def xI:LD->OB
 |[d,.tup [.ty n,.ty m]]=>if AL d=true then none else if n = "list"/\m = "tuple" then some (.bl (ij d == "list" || ij d == "tuple"),false)else none
 |_=>none
def DK (K:Frag)(d:D)(hd:∀n,d≠.ty n):PySem.W.kitAny K (.type (ij d)) [.type "list",.type "tuple"]=some (ij d == "list" || ij d == "tuple"):=by
 obtain⟨_,_,_,k4,k5⟩:=Ft K d hd;unfold PySem.W.kitAny;rw[k4];cases ij d == "list" with
 |true=>rfl
 |false=>
  unfold PySem.W.kitAny;rw[k5];cases ij d == "tuple" with
  |true=>rfl
  |false=>rfl
def FY (I:Inv X ah σ H s)(i:Is X.K H v d)(hd:∀n,d≠.ty n)(G:bd v u)(T:IsTup s.heap tp its.toArray)(e:PySem.W.kitAny X.K (.type (ij d)) its=some b)(h:∀tk,Q (.bool b) { s with toks:=tk }):
  wpAny (model X.prog X.w) A (call (.builtin "isinstance") [u,.ref tp]) Q E s:=by
 obtain⟨⟨cls,dd,data,sl⟩,M,hc,n,O⟩:=id T;dsimp only at hc O;subst hc;subst O;cases i with
 |non=>cases (show u=Value.none from G);exact PySem.W.kia_tup PySem.W.kitx_none I.kIn True.intro M e (λz=>nomatch z) h
 |bl y=>cases (show u=Value.bool y from G);exact PySem.W.kia_tup PySem.W.kitx_bool I.kIn True.intro M e (λz=>nomatch z) h
 |int i=>obtain⟨t,q⟩:=(show ∃t,u=Value.int i t from G);cases q;exact PySem.W.kia_tup PySem.W.kitx_int I.kIn True.intro M e (λz=>nomatch z) h
 |str y=>obtain⟨t,q⟩:=(show ∃t,u=Value.str y t from G);cases q;exact PySem.W.kia_tup PySem.W.kitx_str I.kIn True.intro M e (λz=>nomatch z) h
 |ty n=>exact absurd rfl (hd n)
 |dk h1 _ _=>
  cases G
  obtain⟨_,_,_,vs,_,o,es,ep,U,e2,_⟩:=(show bN X.prog X.w H s.heap _ (.dK _ _)from I.hok _ _ h1);exact PySem.W.kia_tup PySem.W.kitx_dict I.kIn ⟨o,U,e2.1⟩ M e (λz=>nomatch z) h
 |dt h1 _ _=>
  cases G
  obtain⟨_,_,xs,_,o,es,ep,U,e2,_⟩:=(show bN X.prog X.w H s.heap _ (.dT _)from I.hok _ _ h1);exact PySem.W.kia_tup PySem.W.kitx_dict I.kIn ⟨o,U,e2.1⟩ M e (λz=>nomatch z) h
 |tup T _=>
  cases G
  obtain⟨its,_,⟨o,h1,h2,_⟩,_⟩:=I.tuple T;exact PySem.W.kia_tup PySem.W.kitx_tuple I.kIn ⟨o,h1,h2⟩ M e (λz=>nomatch z) h
 |lst hl _=>
  cases G
  obtain⟨its,_,⟨o,n,h1,h2,_⟩,_⟩:=I.list hl;exact PySem.W.kia_tup PySem.W.kitx_list I.kIn ⟨o,h1,h2⟩ M e (λz=>nomatch z) h
def DM:cA X (.builtin "isinstance") (E1 X.K xI):=by
 intro ah s σ H xs us Q I T q;obtain⟨B,ds,d,b,G,i,e,q⟩:=q;match ds,i,e with
 |[dx,.tup [.ty n,.ty m]],.cons i1 (.cons i2 .nil),e=>
  obtain⟨u1,u2,rfl,U,r2⟩:=EG T;simp only[xI]at e;split at e
  ·cases e
  ·rename_i ht;have hd:∀n,dx≠.ty n:=λn z=>by subst z;exact ht rfl
   split at e
   ·rename_i hh;obtain⟨rfl,rfl⟩:=hh;cases e
    cases i2 with
    |tup hs hl=>
     cases hl with
     |cons j1 hl=>
      cases hl with
      |cons j2 hl=>
       cases hl
       cases j1
       cases j2
       cases r2
       obtain⟨its,rv,p,_⟩:=I.tuple (bC G hs);obtain⟨w1,w2,rfl,M,O⟩:=rv.two;cases M
       cases O
       exact FY I (i1.mono G) hd U p (DK X.K dx hd) λtk=>⟨.bl _,H,I.tok tk,rfl,q.one G (.bl _)⟩
   ·cases e
end
@[simp] noncomputable def lN:D->Option eQ
 |.int i=>some (.inl i)
 |.str x=>some (.inr x)
 |_=>none
def vy {K:Frag}{B:Hp}{v:V}{d:D}{k:eQ}(i:Is K B v d)(e:lN d=some k):v=kV k:=by
 cases i<;>simp only[lN]at e<;>cases e<;>rfl
noncomputable def cH {κ:Type}[DecidableEq κ]:List κ->LD->κ->Option D
 |k'::ks,d::ds,k=>if k'=k then some d else cH ks ds k
 |_,_,_=>none
theorem xJ {κ:Type}[DecidableEq κ]{K:Frag}{B:Hp}(k:κ):∀ {ks:List κ}{vs:LV}{ds:LD},ks.length=vs.length->IsL K B vs ds ->
  (∃v d,kx (ks.zip vs) k=some v/\cH ks ds k=some d/\Is K B v d)∨(kx (ks.zip vs) k=none/\cH ks ds k=none)
 |[],vs,ds,_,_=>.inr ⟨by cases vs<;>rfl,by cases ds<;>rfl⟩
 |k'::ks,[],_,h,_=>by simp at h
 |k'::ks,v::vs,_,h,.cons i is=>by
  rw[zip_cons_cons];unfold cH;by_cases e:k'=k
  ·rw[if_pos e];exact .inl ⟨v,_,mI (p:=(k',v)) e,rfl,i⟩
  ·rw[if_neg e,mJ (p:=(k',v)) e];exact xJ k (by simpa using h) is
section
variable {X:Cx}{o e i:Expr}{pos:Pos}
@[simp] def FZ:D->D->OB
 |.dk ks vs,y=>(lN y).map λk=>((cH ks vs k).getD .non,false)
 |_,_=>none
def Ga {dJ cF:Pos}{fo fe:FE}(hu:X.A.units+1<cLine)(ho:JE X o fo)(he:JE X e fe)(m:M1 X o "get" dJ e cF):JE X (.Call (.Attribute o "get" dJ) [e] [] cF) (f2 FZ fo fe):=by
 refine PE.to (yx hu ho he m) λσ H Q q=>?_;obtain⟨B,ρ,d,bb,sB,r,G,q⟩:=q;obtain⟨x,ex,G⟩:=oX G;obtain⟨y,ey,G⟩:=oX G;refine⟨B,ρ,x.1,x.2,sB,r,ex,λv H1 N1 O i1 ff=>?_⟩;obtain⟨xd,xb⟩:=x;cases i1 with
 |@dk a ks vs ds ob h hl hs=>
  simp only[FZ]at G;obtain⟨k,hk,G⟩:=oY G;cases G
  refine⟨a,rfl,.inl ⟨_,_,.inl (O.nh _ _ h)⟩,N1,ρ,y.1,y.2,O.nh,r.mono O.bn,ey,λv2 H2 N2 M i2 _=>?_⟩;have hv:=vy i2 hk;subst hv;refine⟨kx (ks.zip vs) k,.inl ⟨_,k,_,.inl (M.nh _ _ (M.bn _ _ h)),rfl,rfl⟩,?_⟩;have T:=hs.mono M.bn;rcases xJ k hl T with⟨v,d',U,e2,i3⟩|⟨U,e2⟩
  ·rw[U];rw[e2]at q;exact(q.into (O.trans M)).one M.nh i3
  ·rw[U];rw[e2]at q;exact(q.into (O.trans M)).one M.nh .non
 |_=>simp[FZ]at G
@[simp] def X9:D->D->OB
 |.dk ks vs,y=>(lN y).bind λk=>(cH ks vs k).map λd=>(d,false)
 |_,_=>none
@[simp] def Qv:D->D->OB
 |y,.dk ks vs=>(lN y).map λk=>(.bl (cH ks vs k).isSome,false)
 |_,_=>none
def DN {κ:Type}[DecidableEq κ]{K:Frag}{B:Hp}{k:κ}{ks:List κ}{vs:LV}{ds:LD}(hl:ks.length=vs.length)(hs:IsL K B vs ds):(kx (ks.zip vs) k).isSome=(cH ks ds k).isSome:=by
 rcases xJ k hl hs with⟨v,d,G,e2,_⟩|⟨G,e2⟩
 ·rw[G,e2];rfl
 ·rw[G,e2];rfl
end
noncomputable def dN {κ:Type}[DecidableEq κ](ks:List κ)(k:κ):List κ:=if k∈ks then ks else ks++[k]
noncomputable def dO {κ α:Type}[DecidableEq κ](ks:List κ)(xs:List α)(k:κ)(x:α):List α:=if k∈ks then List.zipWith (λk' G=>if k'=k then x else G) ks xs else xs++[x]
theorem Cp {κ:Type}[DecidableEq κ](k:κ):∀ {ks:List κ}{vs:LV},ks.length=vs.length->((ks.zip vs).any λkv=>decide (kv.1=k))=decide (k∈ks)
 |[],_,_=>by simp
 |k'::ks,[],h=>by simp at h
 |k'::ks,v::vs,h=>by
  have G:=Cp k (ks:=ks) (vs:=vs) (by simpa using h);rw[zip_cons_cons,any_cons,G];by_cases e:k'=k
  ·simp[e]
  ·have M:¬k=k':=λz=>e z.symm;simp[e,M]
theorem Cq {κ:Type}[DecidableEq κ](k:κ)(v:V):∀(ks:List κ)(vs:LV),(ks.zip vs).map (λkv=>if kv.1=k then (kv.1,v)else kv)=ks.zip (List.zipWith (λk' G=>if k'=k then v else G) ks vs)
 |[],_=>by simp
 |_::_,[]=>by simp
 |k'::ks,w::vs=>by
  rw[zip_cons_cons,uY,Cq k v ks vs,zipWith_cons_cons,zip_cons_cons];by_cases e:k'=k
  ·simp[e]
  ·simp[e]
def qj {κ:Type}[DecidableEq κ]{ks:List κ}{vs:LV}(hl:ks.length=vs.length)(k:κ)(v:V):mH (ks.zip vs) k v=(dN ks k).zip (dO ks vs k v):=by
 unfold mH dN dO;rw[Cp k hl];by_cases h:k∈ks
 ·rw[if_pos (Au h),if_pos h,if_pos h,Cq]
 ·rw[if_neg (by simpa using h),if_neg h,if_neg h,List.zip_append hl];rfl
def nj {κ α:Type}[DecidableEq κ]{ks:List κ}{xs:List α}(hl:ks.length=xs.length)(k:κ)(x:α):(dN ks k).length=(dO ks xs k x).length:=by
 unfold dN dO;split<;>simp[hl]
theorem IsL.zipWith {κ:Type}[DecidableEq κ]{K:Frag}{B:Hp}{k:κ}{v:V}{d:D}(i:Is K B v d):∀ {ks:List κ}{vs:LV}{ds:LD},IsL K B vs ds->IsL K B (List.zipWith (λk' G=>if k'=k then v else G) ks vs) (List.zipWith (λk' G=>if k'=k then d else G) ks ds)
 |[],_,_,_=>by simpa using IsL.nil
 |_::_,_,_,.nil=>by simpa using IsL.nil
 |k'::ks,_,_,.cons h t=>by
  rw[zipWith_cons_cons,zipWith_cons_cons];refine .cons ?_ (IsL.zipWith i t);by_cases e:k'=k
  ·rw[if_pos e,if_pos e];exact i
  ·rw[if_neg e,if_neg e];exact h
def IsL.put {κ:Type}[DecidableEq κ]{K:Frag}{B:Hp}{k:κ}{v:V}{d:D}(i:Is K B v d){ks:List κ}{vs:LV}{ds:LD}(h:IsL K B vs ds):IsL K B (dO ks vs k v) (dO ks ds k d):=by
 unfold dO;split
 ·exact h.zipWith i
 ·exact h.append (.cons i .nil)
section
variable {K:Frag}{E:Ends}{σ:St}{H:Hp}
noncomputable def Cr (i:Nat):FS:=λρ=>some (.nx (ρ.set i (some (.dk [] [],true))))
noncomputable def Gb (i:Nat):FS:=λρ=>some (.nx (ρ.set i (some (.dt [] [],true))))
def eM.newBox (s:eM K B0 H0 N H σ ρ)(i:Nat)(hp:H p=none)(hb:∀C,Bx K C ob dd):eM K B0 H0 (upd N p ob) (upd H p ob) (σ.set i (some (.ref p))) (ρ.set i (some (dd,true))):=by
 have x:=Ext.laid (o:=ob) s.ext.nh hp;have s1:=s.grow x;have G:N p=none:=s.ext.nh.free hp;have M:¬own σ ρ p:=λz=>by obtain⟨T,⟨q,_⟩,_⟩:=s.owned z;rw[G]at q;cases q
 have c:bc (dU N (own σ ρ)) (dU (upd N p ob) (λb=>own σ ρ b∨b=p)):=eX λb u e q=>⟨x.bn _ _ e,λz=>z.elim q λz=>by subst z;rw[G]at e;cases e⟩;refine s1.bindOwn aC (s.ext.hh.free hp) (λj e q z=>M ⟨j,e,q,z⟩) (λj e _ q=>?_) (λj e _ q=>?_) (hb _)
 ·obtain⟨w,h1,h2⟩:=s.sh j e q;exact⟨w,h1,h2.mono c⟩
 ·obtain⟨O,o',h1,h2,_,h4⟩:=s.ow j e q;exact⟨O,o',h1,x.bn _ _ h2,h4.mono c⟩
def Gc (q:oe K (Cr i) E σ H):Dk EW (jZ i) E σ H:=by
 obtain⟨B0,H0,ρ,r,⟨N,s⟩,e,p⟩:=q;cases e
 exact λa ob ha=>p _ _ ⟨_,s.newBox i ha λ_=>.dk (ks:=[]) (vs:=[]) rfl .nil⟩
def Gd (q:oe K (Gb i) E σ H):Dk EX (jZ i) E σ H:=by
 obtain⟨B0,H0,ρ,r,⟨N,s⟩,e,p⟩:=q;cases e
 exact λa ha=>p _ _ ⟨_,s.newBox i ha λ_=>.dt (ks:=[]) (vs:=[]) rfl .nil⟩
def zn (i:Nat)(M O:FE):FS:=λρ=>match ρ[i]? with
 |some (some (.dk ks vs,true))=>(O ρ).bind λv=>(M ρ).bind λk=>(lN k.1).bind λG=>if b8 v.1=true/\ks.length<sizeLine then some (.nx (ρ.set i (some (.dk (dN ks G) (dO ks vs G v.1),true))))else none
 |_=>none
def Ge {i:Nat}{G M:FE}(q:oe K (zn i G M) E σ H):BI (pP i) (tD K G) (tD K M) E σ H:=by
 obtain⟨B0,H0,ρ,r,⟨N,s⟩,e,p⟩:=q;unfold zn at e;split at e
 ·rename_i ks ds ei;obtain⟨v,T,e⟩:=oX e;obtain⟨k,ek,e⟩:=oX e;obtain⟨U,hk,e⟩:=oX e;split at e
  ·rename_i hx;cases e
   refine⟨N,ρ,v.1,v.2,s.ext.nh,s.rep,T,λv1 H1 N1 x1 i1 _=>?_⟩;have s1:=s.grow x1;obtain⟨a,o,h1,h2,h3,h4⟩:=s1.ow i _ ei;refine⟨.ref a,h1,N1,ρ,k.1,k.2,s1.ext.nh,s1.rep,ek,λv2 H2 N2 O i2 _=>?_⟩;have s2:=s1.grow O;have hv:=vy i2 hk;subst hv;obtain⟨a',o',k1,k2,k3,k4⟩:=s2.ow i _ ei;rw[h1]at k1;cases k1
   cases k4 with
   |@dk ks vs ds hl h5 ob=>
    refine⟨a,rfl,.inl ⟨_,U,_,s2.ext.nh _ _ k2,rfl,?_,λXN=>?_⟩⟩
    ·rw[length_zip];omega
    ·rw[qj hl];exact p σ _ ⟨_,s2.writeB ei h1 (.dk (nj hl _ _) (h5.put (s2.flat (i1.mono O.bn) hx.1)))⟩
  ·cases e
 ·cases e
end
section
variable {X:Cx}{pos:Pos}{e k:Expr}
def Cs (G:X.N.Nodup)(hi:X.N[i]? = some x:=by rfl)(hx:Hu X.env.scope x:=by first|exact Or.inl rfl|exact Or.inr rfl)(hs:swapsWith (.Dict [] [] dp) (some (.Name x p)) pos.line X.env=pure false:=by rfl)
  (hf:X.fn x=true∨X.env.scope.names.lookup x=some .local:=by first|exact .inl rfl|exact .inr rfl):JS X (.Assign [.Name x p] (.Dict [] [] dp) pos) (Cr i):=PS.to (wP G hi hx EY hs hf) λ_ _ _ q=>Gc q
def IZ (G:X.N.Nodup)(hi:X.N[i]? = some x:=by rfl)(hx:Hu X.env.scope x:=by first|exact Or.inl rfl|exact Or.inr rfl)(hs:swapsWith (.Dict [] [] dp) (some (.Name x p)) pos.line X.env=pure false:=by rfl)
  (hf:X.fn x=true∨X.env.scope.names.lookup x=some .local:=by first|exact .inl rfl|exact .inr rfl):JS X (.Assign [.Name x p] (.Dict [] [] dp) pos) (Gb i):=PS.to (wP G hi hx EZ hs hf) λ_ _ _ q=>Gd q
def Ja (hu:X.A.units+1<cLine)(hv:JE X e fv)(hk:JE X k fk)(O:X.N[i]? = some y:=by rfl)(G:Nk X.env.scope y:=by first|exact Or.inl rfl|exact Or.inr (Or.inl rfl)|exact Or.inr (Or.inr rfl))(hd:(y == ("__debug__" : Str))=false:=by decide)
  (M:(y == ("__classdict__" : Str))=false:=by decide) (hs:swapsWith e (some (.Subscript (.Name y py) k pt)) pos.line X.env=pure false:=by rfl):JS X (.Assign [.Subscript (.Name y py) k pt] e pos) (zn i fk fv) :=
 PS.to (wZ hu (wM O G hd M) hk hv hs) λ_ _ _ q=>Ge q
end
section
variable {prog:Program}{w:World}{A:Around}{E:QV}{s:Shared}
abbrev o7 (h:Heap)(z TI TO G:Addr)(f:Bool):Prop:=h.get? z=some { cls:=.type "zip",dict:=none,data:=.fields #[rawInt G,.bool f,.bool false,.ref TI,.ref TO],slots:=#[] }
def Gf (e:s.heap.get? a=some o)(h:Q (some o) s):wpAny (model prog w) A (loadIfAlive a) Q E s:=by
 intro M p G;unfold loadIfAlive;simp only[Sem.wp];rw[e];exact h
def vz {z TI TO G:Addr}{f:Bool}{O:Obj}{Q:Bool->Shared->Prop}(hz:o7 s.heap z TI TO G f)(T:s.heap.get? G=some O)
  (q:∀h',o7 h' z TI TO G true->Heap.SameBut z s.heap h'->Q false { s with heap:=h' }):wpAny (model prog w) A (Builtin.SmallTypes.ownedTupleIsFree (.ref z)) Q E s:=by
 unfold Builtin.SmallTypes.ownedTupleIsFree;refine wX (wpAny_field hz rfl (x:=rawInt G) rfl ?_);show wpAny _ _ (loadIfAlive ((G:Int).toNat)>>=_) _ _ _;rw[toNat_natCast];refine wX (Gf T ?_);simp only[isNone_some,uV,if_false];refine wX (wpAny_field hz rfl (x:=.bool f) rfl ?_);cases f with
 |true=>
  rw[if_neg (show ¬((Value.bool true != Value.bool true)=true)from uX)];exact wY (q s.heap hz (.refl _ _))
 |false=>
  rw[if_pos (show((Value.bool false != Value.bool true)=true)from rfl)];refine wX (wpAny_setField_rec hz (by simp) λh' M s'=>wY (q h' M s'))
end
section
variable {prog:Program}{w:World}{A:Around}{E:QV}{s:Shared}
def DO {k1 k2:Bool}{z TI TO T0 i1 i2 l1 l2:Addr}{f:Bool}{oT:Obj}{j:Nat}{xs ys:AV}{x y:Value}{Q:QV}(D:ZApart z TI TO i1 i2)(m1:l1≠z/\l1≠TO/\l1≠i1)(m2:l2≠z/\l2≠TO/\l2≠i1/\l2≠i2)
  (hz:o7 s.heap z TI TO T0 f) (hT:s.heap.get? T0=some oT) (hI:IsPair s.heap TI (.ref i1) (.ref i2)) (t1:lu k1 s.heap i1 l1 j) (t2:lu k2 s.heap i2 l2 j) (q1:kH k1 s.heap l1 xs) (q2:kH k2 s.heap l2 ys) (hx:xs[j]? = some x) (hy:ys[j]? = some y)
  (q:∀h',o7 h' z TI TO T0 true->lu k1 h' i1 l1 (j+1)->lu k2 h' i2 l2 (j+1)->IsPair h' s.heap.objs.size x y ->
   (∀c o,c≠z->c≠i1->c≠i2->s.heap.get? c=some o->h'.get? c=some o)->Q (.ref s.heap.objs.size) { s with heap:=h' }):
  wpAny (model prog w) A (Builtin.«zip.__next__» ⟨[.ref z],[]⟩) (λjv s'=>∃v,jv=.done (.ret v)/\Q v s') E s:=by
 show wpAny _ _ (field (.ref z) 2>>=_) _ _ s;refine wX (wpAny_field hz rfl (x:=.bool false) rfl ?_);show wpAny _ _ (field (.ref z) 3>>=_) _ _ s;refine wX (wpAny_field hz rfl (x:=.ref TI) rfl (wX (wpAny_seqItems hI rfl ?_)));show wpAny _ _ (Builtin.SmallTypes.ownedTupleIsFree (.ref z)>>=_) _ _ s;refine wX (vz hz hT λg1 hz1 s1=>?_);simp only[uV,if_false];refine wX ?_;simp only[←Array.forIn_toList,forIn_cons,forIn_nil];refine wX (wX (wpAny_holding ?_));show wpAny _ _ (Builtin.SmallTypes.nextOf (.ref i1)>>=_) _ _ { s with heap:=g1 };refine wX (gd (s:={ s with heap:=g1 }) (t1.upon λo e=>s1.extBut _ _ D.az e) (q1.upon λo e=>s1.extBut _ _ m1.1 e) hx λg2 t12 s2=>wY ?_);refine wY (wX (wX (wpAny_holding ?_)));show wpAny _ _ (Builtin.SmallTypes.nextOf (.ref i2)>>=_) _ _ { s with heap:=g2 };have G:∀ {c o},c≠z->c≠i1->s.heap.get? c=some o->g2.get? c=some o:=λO T e=>s2.extBut _ _ T (s1.extBut _ _ O e);refine wX (gd (s:={ s with heap:=g2 }) (t2.upon λo e=>G D.bz D.ab.symm e) (q2.upon λo e=>G m2.1 m2.2.2.1 e) hy λM t24 U=>wY ?_);refine wY (wY ?_);refine wX (wpAny_newTuple (hsz:=(by decide:2<=sizeLine)) ?_);have sz:M.objs.size=s.heap.objs.size:=by rw[U.1,s2.1,s1.1]
 have WZ:∀c o,c≠z->c≠i1->c≠i2->s.heap.get? c=some o->M.get? c=some o:=λc o O T c4 e=>U.extBut _ _ c4 (G O T e);refine wY ⟨_,rfl,?_⟩;show Q (.ref M.objs.size) { s with heap:=M.push { cls:=.type "tuple",data:=.seq #[x,y] } };have hp:IsPair (M.push { cls:=.type "tuple",data:=.seq #[x,y] }) M.objs.size x y:=vY _ rfl;rw[sz]at hp ⊢;exact q _ (vZ _ (U.extBut _ _ D.bz.symm (s2.extBut _ _ D.az.symm hz1))) (t12.upon λo e=>vZ _ (U.extBut _ _ D.ab e)) (t24.upon λo e=>vZ _ e) hp λc o O T c4 e=>vZ _ (WZ c o O T c4 e)
def Gg {k1 k2:Bool}{z TI TO U i1 i2 l1 l2:Addr}{f:Bool}{oT:Obj}{j:Nat}{xs ys:AV}{Q:PySem.Fin->Shared->Prop}(hA:A.handled=none)(D:ZApart z TI TO i1 i2)(m1:l1≠z/\l1≠TO/\l1≠i1)(m2:l2≠z/\l2≠TO/\l2≠i1/\l2≠i2)
  (hz:o7 s.heap z TI TO U f) (hT:s.heap.get? U=some oT) (hI:IsPair s.heap TI (.ref i1) (.ref i2)) (t1:lu k1 s.heap i1 l1 j) (t2:lu k2 s.heap i2 l2 j) (q1:kH k1 s.heap l1 xs) (q2:kH k2 s.heap l2 ys) (he:xs[j]? = none∨ys[j]? = none)
  (q:∀h' x,(∀c o,c≠z->c≠i1->c≠i2->s.heap.get? c=some o->h'.get? c=some o)->(∃o,h'.get? x=some o/\o.cls=.type "StopIteration")->E (.ref x) { s with heap:=h' }):
  wpAny (model prog w) A (Builtin.«zip.__next__» ⟨[.ref z],[]⟩) Q E s:=by
 show wpAny _ _ (field (.ref z) 2>>=_) _ _ s;refine wX (wpAny_field hz rfl (x:=.bool false) rfl ?_);show wpAny _ _ (field (.ref z) 3>>=_) _ _ s;refine wX (wpAny_field hz rfl (x:=.ref TI) rfl (wX (wpAny_seqItems hI rfl ?_)));show wpAny _ _ (Builtin.SmallTypes.ownedTupleIsFree (.ref z)>>=_) _ _ s;refine wX (vz hz hT λg1 hz1 s1=>?_);simp only[uV,if_false];refine wX ?_;simp only[←Array.forIn_toList,forIn_cons,forIn_nil];refine wX (wX (wpAny_holding ?_));show wpAny _ _ (Builtin.SmallTypes.nextOf (.ref i1)>>=_) _ _ { s with heap:=g1 };cases hx:xs[j]? with
 |none=>
  exact wX (j5 (s:={ s with heap:=g1 }) hA (t1.upon λo e=>s1.extBut _ _ D.az e) (q1.upon λo e=>s1.extBut _ _ m1.1 e) hx λM x s2 hX=>q M x (λc o O T _ e=>s2 _ _ T (s1.extBut _ _ O e)) hX)
 |some v=>
  have hy:ys[j]? = none:=by
   rcases he with h|h
   ·rw[hx]at h;cases h
   ·exact h
  refine wX (gd (s:={ s with heap:=g1 }) (t1.upon λo e=>s1.extBut _ _ D.az e) (q1.upon λo e=>s1.extBut _ _ m1.1 e) hx λM t12 s2=>wY ?_);refine wY (wX (wX (wpAny_holding ?_)));show wpAny _ _ (Builtin.SmallTypes.nextOf (.ref i2)>>=_) _ _ { s with heap:=M };have G:∀ {c o},c≠z->c≠i1->s.heap.get? c=some o->M.get? c=some o:=λO T e=>s2.extBut _ _ T (s1.extBut _ _ O e);exact wX (j5 (s:={ s with heap:=M }) hA (t2.upon λo e=>G D.bz D.ab.symm e) (q2.upon λo e=>G m2.1 m2.2.2.1 e) hy λg4 x s4 hX=>q g4 x (λc o O T c4 e=>s4 _ _ c4 (G O T e)) hX)
end
structure ZA (k1 k2:Bool)(z TI TO i1 i2 l1 l2:Addr):Prop where
 D:ZApart z TI TO i1 i2
 m1:l1≠z/\l1≠TO/\l1≠i1
 m2:l2≠z/\l2≠TO/\l2≠i1/\l2≠i2
def Gh (k1 k2:Bool)(z TI TO i1 i2 l1 l2 S:Addr)(i:Nat)(h:Heap):Prop :=
 IsPair h TI (.ref i1) (.ref i2)/\lu k1 h i1 l1 i/\lu k2 h i2 l2 i/\((IsZip h z TI TO .none/\∃a b,IsPair h TO a b)∨∃G f M O,o7 h z TI TO G f/\h.get? G=some M/\G∉[z,TI,TO,i1,i2]/\G≠S/\h.get? TO=some O)
def Gh.keep {k1 k2:Bool}{z TI TO i1 i2 l1 l2 S:Addr}{i:Nat}{h h':Heap}(st:Gh k1 k2 z TI TO i1 i2 l1 l2 S i h)(G:S∉[z,TI,TO,i1,i2])(k:∀b o,b≠S->h.get? b=some o->h'.get? b=some o):Gh k1 k2 z TI TO i1 i2 l1 l2 S i h':=by
 obtain⟨M,O,T,U⟩:=st;have n:∀ {b},b∈[z,TI,TO,i1,i2]->b≠S:=λhb e=>G (e ▸ hb);refine⟨k _ _ (n (by simp)) M,O.upon λo e=>k _ o (n (by simp)) e,T.upon λo e=>k _ o (n (by simp)) e,?_⟩;rcases U with⟨b1,a,b,b2⟩|⟨T0,f,oT,oO,b1,b2,b3,b4,b5⟩
 ·exact .inl ⟨k _ _ (n (by simp)) b1,a,b,k _ _ (n (by simp)) b2⟩
 ·exact .inr ⟨T0,f,oT,oO,k _ _ (n (by simp)) b1,k _ _ b4 b2,b3,b4,k _ _ (n (by simp)) b5⟩
section
variable {prog:Program}{w:World}{A:Around}{E:QV}{s:Shared}{k1 k2:Bool}{z TI TO i1 i2 l1 l2 S:Addr}{j:Nat}{xs ys:AV}
def Gh.ty (st:Gh k1 k2 z TI TO i1 i2 l1 l2 S j h):∃o,h.get? z=some o/\o.cls=.type "zip":=by
 obtain⟨_,_,_,G⟩:=st;rcases G with⟨b1,_⟩|⟨M,f,O,T,b1,_⟩
 ·exact⟨_,b1,rfl⟩
 ·exact⟨_,b1,rfl⟩
def Gi (Z:ZA k1 k2 z TI TO i1 i2 l1 l2)(hS:S<s.heap.objs.size)(st:Gh k1 k2 z TI TO i1 i2 l1 l2 S j s.heap)(q1:kH k1 s.heap l1 xs)(q2:kH k2 s.heap l2 ys)(hx:xs[j]? = some x)(hy:ys[j]? = some y)
  (q:∀h',Gh k1 k2 z TI TO i1 i2 l1 l2 S (j+1) h'->IsPair h' s.heap.objs.size x y->(∀c o,c∉[z,TI,TO,i1,i2]->s.heap.get? c=some o->h'.get? c=some o)->Q (some (.ref s.heap.objs.size)) { s with heap:=h' }):
  wpAny (model prog w) A (pyNext (.ref z)) Q E s:=by
 have M:s.TypeIs (.ref z) "zip":=st.ty;obtain⟨G,U,t2,a4⟩:=st;have lt:∀ {c o},s.heap.get? c=some o->s.heap.objs.size≠c:=λe=>ne_of_gt (vX e);obtain⟨o1,e1,_⟩:=U.ob;obtain⟨o2,e2,_⟩:=t2.ob;unfold pyNext;rcases a4 with⟨hz,a,b,O⟩|⟨T0,f,oT,oO,hz,h0,n0,nS,O⟩
 ·refine wX (wpAny_attempt (wpAny_callSpecial?_slot (name:=Str.ofString "__next__") M slot_zip_next (wpAny_call_entry slot_zip_next M entry_zip_next (yL Z.D Z.m1 Z.m2 hz G O U t2 q1 q2 hx hy λh' b1 b2 b3 b4 T b6 bk=>wY ?_) (args_zip_next_1 _))));refine q h' ⟨bk _ _ Z.D.tz Z.D.to Z.D.ta Z.D.tb G,b3,b4,.inr ⟨_,false,_,_,b1,T,?_,ne_of_gt hS,b2⟩⟩ T λc o hc e=>bk c o (λz=>hc (by simp[z])) (λz=>hc (by simp[z])) (λz=>hc (by simp[z])) (λz=>hc (by simp[z])) e;simp only[mem_cons,not_mem_nil,or_false,not_or];exact⟨lt hz,lt G,lt O,lt e1,lt e2⟩
 ·refine wX (wpAny_attempt (wpAny_callSpecial?_slot (name:=Str.ofString "__next__") M slot_zip_next (wpAny_call_entry slot_zip_next M entry_zip_next (DO Z.D Z.m1 Z.m2 hz h0 G U t2 q1 q2 hx hy λh' b1 b3 b4 T bk=>wY ?_) (args_zip_next_1 _))));exact q h' ⟨bk _ _ Z.D.tz Z.D.ta Z.D.tb G,b3,b4,.inr ⟨T0,true,oT,oO,b1,bk _ _ (λz=>n0 (by simp[z])) (λz=>n0 (by simp[z])) (λz=>n0 (by simp[z])) h0,n0,nS,bk _ _ Z.D.oz Z.D.oa Z.D.ob O⟩⟩ T λc o hc e=>bk c o (λz=>hc (by simp[z])) (λz=>hc (by simp[z])) (λz=>hc (by simp[z])) e
def Gj (O:A.handled=none)(Z:ZA k1 k2 z TI TO i1 i2 l1 l2)(st:Gh k1 k2 z TI TO i1 i2 l1 l2 S j s.heap)(U:kH k1 s.heap l1 xs)(q2:kH k2 s.heap l2 ys)(he:xs[j]? = none∨ys[j]? = none)
  (q:∀h',(∀c o,c∉[z,TI,TO,i1,i2]->s.heap.get? c=some o->h'.get? c=some o)->Q none { s with heap:=h' }):wpAny (model prog w) A (pyNext (.ref z)) Q E s:=by
 have G:s.TypeIs (.ref z) "zip":=st.ty;obtain⟨hI,t1,t2,a4⟩:=st;unfold pyNext;rcases a4 with⟨hz,a,b,hO⟩|⟨T0,f,oT,oO,hz,h0,n0,nS,hO⟩
 ·refine wX (wpAny_attempt (wpAny_callSpecial?_slot (name:=Str.ofString "__next__") G slot_zip_next (wpAny_call_entry slot_zip_next G entry_zip_next (BY O Z.D Z.m1 Z.m2 hz hI hO t1 t2 U q2 he λh' x hk hX=>?_) (args_zip_next_1 _))));obtain⟨o,M,co⟩:=hX;exact wX (wpAny_isInstance (T:="StopIteration") (b:=true) ⟨o,M,co⟩ isSubtype_stop (wY (q h' λc o hc e=>hk c o (λz=>hc (by simp[z])) (λz=>hc (by simp[z])) (λz=>hc (by simp[z])) (λz=>hc (by simp[z])) e)))
 ·refine wX (wpAny_attempt (wpAny_callSpecial?_slot (name:=Str.ofString "__next__") G slot_zip_next (wpAny_call_entry slot_zip_next G entry_zip_next (Gg O Z.D Z.m1 Z.m2 hz h0 hI t1 t2 U q2 he λh' x hk hX=>?_) (args_zip_next_1 _))));obtain⟨o,M,co⟩:=hX;exact wX (wpAny_isInstance (T:="StopIteration") (b:=true) ⟨o,M,co⟩ isSubtype_stop (wY (q h' λc o hc e=>hk c o (λz=>hc (by simp[z])) (λz=>hc (by simp[z])) (λz=>hc (by simp[z])) e)))
end
def Gk (h:a≠b):upd (upd H a o) b u=upd (upd H b u) a o:=by
 funext c;unfold upd;by_cases h1:c=b
 ·by_cases h2:c=a
  ·exact absurd (h2.symm.trans h1) h
  ·rw[if_pos h1,if_neg h2,if_pos h1]
 ·rw[if_neg h1];by_cases h2:c=a
  ·rw[if_pos h2,if_pos h2]
  ·rw[if_neg h2,if_neg h2,if_neg h1]
def kM (h:H a=none):bc H (upd H a o):=λb u e=>by rw[aG (bf e h)];exact e
def DP (h:(ji ds es)[i]? = some d):(ji ds es).take (i+1)=(ji ds es).take i++[d]:=by
 rw[take_add_one,h];rfl
def Bg:typeLookup (.type "zip") "__len__" = pure none:=by rw[typeLookup_type,builtinLookup_eq_fast];kernel_rfl
def zo:typeLookup (.type "zip") "__length_hint__" = pure none:=by rw[typeLookup_type,builtinLookup_eq_fast];kernel_rfl
section
variable {X:Cx}{ah:AO}{σ:St}{B H0:Hp}{A:Around}{R:Result->Shared->Prop}{k1 k2:Bool}{z TI TO i1 i2 l1 l2 S:Addr}{us ws:LV}{ds es:LD}
def DQ (hA:A.handled=none)(Z:ZA k1 k2 z TI TO i1 i2 l1 l2)(hS:S∉[z,TI,TO,i1,i2])(h1:mh k1 X.K B l1 us)(j1:IsL X.K B us ds)(h2:mh k2 X.K B l2 ws)(j2:IsL X.K B ws es)
  (hR:∀G N vs s',Inv X ah σ (upd G S (.lst vs)) s'->G S=none->Ext B N H0 G->IsL X.K N vs (ji ds es)->R (.ok (.ret .none)) s'):
  ∀(k i:Nat)(s:Shared)(G N:Hp)(vs:LV),(ji ds es).length - i=k->i<=(ji ds es).length->Inv X ah σ (upd G S (.lst vs)) s->G S=none->Ext B N H0 G->(∀b∈[z,TI,TO,i1,i2],lZ X ah (upd G S (.lst vs)) b) ->
   Gh k1 k2 z TI TO i1 i2 l1 l2 S i s.heap->IsL X.K N vs ((ji ds es).take i) ->
   codeAny (model X.prog X.w) A (.builtin "list.extend.loop" ⟨[.ref S,.ref z,.none],[]⟩) R s:=by
 have n1:=j1.length;have n2:=j2.length;have nz:(ji ds es).length=min ds.length es.length:=by unfold ji;rw[List.length_zipWith]
 intro k;induction k with
 |zero=>
  intro i s G N vs hk hi I hc M fp st U;have Hs:i=(ji ds es).length:=by omega
  have sm:bc B (upd G S (.lst vs)):=(M.bn.trans M.nh).trans (kM hc);obtain⟨its,r1,p1,z1⟩:=(h1.same sm).vals I;obtain⟨B8,r2,p2,z2⟩:=(h2.same sm).vals I;have e1:=r1.length;have e2:=r2.length;refine codeAny_builtin PySem.F.entry_extend_loop ?_;rw[Around.under_plainId plain_extend_loop _];show wpAny _ A.in1 (pyNext (.ref z)>>=_) _ _ s;refine wX (Gj (A:=A.in1) hA Z st p1 p2 ?_ λh' O=>?_)
  ·by_cases q:ds.length<=es.length
   ·left;simp;omega
   ·right;simp;omega
  ·refine wY (hR G N vs _ (jQ (t':=s.toks) I fp O) hc M ?_);rw[Hs,take_length]at U;exact U
 |succ k ih=>
  intro i s G N vs hk hi I hc M fp st U;have yj:i<(ji ds es).length:=by omega
  have sm:bc B (upd G S (.lst vs)):=(M.bn.trans M.nh).trans (kM hc);obtain⟨its,r1,p1,z1⟩:=(h1.same sm).vals I;obtain⟨B8,r2,p2,z2⟩:=(h2.same sm).vals I;have d1:i<ds.length:=by omega
  have d2:i<es.length:=by omega
  obtain⟨x,hx,ix⟩:=j1.get (vU d1);obtain⟨y,hy,iy⟩:=j2.get (vU d2);obtain⟨u,hu,ru⟩:=r1.get hx;obtain⟨v,hv,rv⟩:=r2.get hy;have el:(ji ds es)[i]? = some (.tup [ds[i],es[i]]):=by
   unfold ji;rw[List.getElem?_zipWith,vU d1,vU d2]
  obtain⟨zl,As,c,Xa,XO,eS⟩:=I.lstM aC;have Nf:S<s.heap.objs.size:=vX eS;refine codeAny_builtin PySem.F.entry_extend_loop ?_;rw[Around.under_plainId plain_extend_loop _];show wpAny _ A.in1 (pyNext (.ref z)>>=_) _ _ s;refine wX (Gi (A:=A.in1) Z Nf st p1 p2 (by simpa using hu) (by simpa using hv) λh' MY hp O=>?_);have fr:upd G S (.lst vs) s.heap.objs.size=none:=I.hok.fresh (vT _);have nS:s.heap.objs.size≠S:=ne_of_gt Nf;have U2:G s.heap.objs.size=none:=by rw[aG nS]at fr;exact fr
  have new:bN X.prog X.w (upd (upd G S (.lst vs)) s.heap.objs.size (.tup [x,y])) h' s.heap.objs.size (.tup [x,y]):=⟨by show 2<=sizeLine;decide,[u,v],.cons ru (.cons rv .nil),⟨_,hp,rfl,_,rfl⟩⟩;have I1:Inv X ah σ (upd (upd G S (.lst vs)) s.heap.objs.size (.tup [x,y])) { s with heap:=h' }:=BZ (s:=s) (t':=s.toks) I fp O (vT _) new;rw[Gk nS.symm]at I1;have U3:h'.get? S=some { cls:=.type "list",data:=.seq As.toArray c }:=O S _ hS eS;have T:Ext B (upd N s.heap.objs.size (.tup [x,y])) H0 (upd G s.heap.objs.size (.tup [x,y])):=M.trans (Ext.laid M.nh U2);have vl:vs.length=i:=by rw[U.length,length_take];omega
  have zs:=zl;show wpAny _ A.in1 (updateSeq S (·.push (Value.ref s.heap.objs.size))>>=_) _ _ _;refine wX ?_;have lz:(vs++[V.ref s.heap.objs.size]).length<=sizeLine:=by
   rw[uZ,vl];have a1:=z1;show i+1<=sizeLine;omega
  have I2:=I1.lset (t':=s.toks) (ys:=vs++[.ref s.heap.objs.size]) (its':=As++[.ref s.heap.objs.size]) (f:=(·.push (Value.ref s.heap.objs.size))) aC U3 (by simp) (Xa.append (.cons (show bd (.ref _) (.ref _)from rfl) .nil)) lz;rw[mE]at I2;refine wpAny_updateSeq U3 rfl (wY ⟨plainId_quiet plain_extend_loop _,ih (i+1) _ _ _ (vs++[.ref s.heap.objs.size]) (by omega) yj I2 (by rw[aG nS.symm];exact hc) T (λb hb=>?_) (MY.keep hS λb o hb e=>(Heap.get?_update_other _ _ (Ne.symm hb)).trans e) ?_⟩) (by simp;omega) (by simp;omega)
  ·obtain⟨f0,f1,f2,f3,f4,f5⟩:=fp b hb;refine⟨?_,f1,f2,f3,f4,f5⟩;have nb:b≠S:=λe=>hS (e ▸ hb);rw[aG nb]at f0 ⊢;have nT:b≠s.heap.objs.size:=by
    obtain⟨hI,t1,t2,a4⟩:=st;obtain⟨o1,e1,_⟩:=t1.ob;obtain⟨o2,e2,_⟩:=t2.ob;simp only[mem_cons,not_mem_nil,or_false]at hb;have lt:∀ {c o},s.heap.get? c=some o->c≠s.heap.objs.size:=λe=>vS (vX e);have hO:∃o,s.heap.get? TO=some o/\∃o,s.heap.get? z=some o:=by
     rcases a4 with⟨hz,a,b,hO⟩|⟨T0,f,oT,oO,hz,h0,n0,nS,hO⟩
     ·exact⟨_,hO,_,hz⟩
     ·exact⟨_,hO,_,hz⟩
    obtain⟨o3,e3,o4,e4⟩:=hO;rcases hb with rfl|rfl|rfl|rfl|rfl
    ·exact lt e4
    ·exact lt hI
    ·exact lt e3
    ·exact lt e1
    ·exact lt e2
   rw[aG nT];exact f0
  ·rw[DP el];exact(U.mono (Ext.laid M.nh U2).bn).append (.cons (.tup (jt.of aC) (.cons (ix.mono T.bn) (.cons (iy.mono T.bn) .nil))) .nil)
end
section
variable {X:Cx}{ah:AO}{σ:St}{B H:Hp}{s:Shared}{k1 k2:Bool}{z TI TO i1 i2 l1 l2:Addr}{us ws:LV}{ds es:LD}
def ul (hA:X.A.handled=none)(I:Inv X ah σ H s)(Z:ZA k1 k2 z TI TO i1 i2 l1 l2)(fp:∀b∈[z,TI,TO,i1,i2],lZ X ah H b)
  (hI:IsPair s.heap TI (.ref i1) (.ref i2)) (t1:lu k1 s.heap i1 l1 0) (t2:lu k2 s.heap i2 l2 0) (hz:IsZip s.heap z TI TO .none) (hO:IsPair s.heap TO a b)
  (sB:bc B H) (h1:mh k1 X.K B l1 us) (j1:IsL X.K B us ds) (h2:mh k2 X.K B l2 ws) (j2:IsL X.K B ws es)
  (q:∀(S:Addr)(U N:Hp)(vs:LV),U S=none->Ext B N H U->IsL X.K N vs (ji ds es)->Q (.ref S) (upd U S (.lst vs))):
  wq X (call (.type "list") [.ref z]) (EP X ah σ Q) X.xe s:=by
 have lt:∀ {c o},s.heap.get? c=some o->s.heap.objs.size≠c:=λe=>ne_of_gt (vX e);have G:s.heap.objs.size∉[z,TI,TO,i1,i2]:=by
  obtain⟨o1,e1,_⟩:=t1.ob;obtain⟨o2,e2,_⟩:=t2.ob;simp only[mem_cons,not_mem_nil,or_false,not_or];exact⟨lt hz,lt hI,lt hO,lt e1,lt e2⟩
 have nz:s.heap.objs.size≠z:=lt hz;have Xb:Gh k1 k2 z TI TO i1 i2 l1 l2 s.heap.objs.size 0 s.heap:=⟨hI,t1,t2,.inl ⟨hz,a,b,hO⟩⟩;have hc:H s.heap.objs.size=none:=I.fresh;refine callType_codes (Q₁:=λobj O=>obj=.ref s.heap.objs.size/\O={ s with heap:=s.heap.push { cls:=.type "list",data:=.seq #[] } }) PySem.F.called_list (PySem.F.typeCall_list_1 _) PySem.F.entry_list_init
  (code_list_new _ ⟨rfl,rfl⟩) λobj O h₁=>?_
 obtain⟨rfl,rfl⟩:=h₁;have hS:(s.heap.push { cls:=.type "list",data:=.seq #[] }).get? s.heap.objs.size=some { cls:=.type "list",data:=.seq ([]:LU).toArray }:=vY _ rfl;have I1:Inv X ah σ (upd H s.heap.objs.size (.lst [])) { s with heap:=s.heap.push { cls:=.type "list",data:=.seq #[] } }:=I.lnew (t':=s.toks) (its:=[]) .nil (uN _);have Xc:Gh k1 k2 z TI TO i1 i2 l1 l2 s.heap.objs.size 0 (s.heap.push { cls:=.type "list",data:=.seq #[] }):=Xb.keep G λb o _ e=>vZ _ e;refine⟨⟨_,hS,rfl⟩,PySem.F.args_list_init_2 _ _,?_⟩;show wpAny _ _ (do let old ←Builtin.List.listItems (.ref s.heap.objs.size);Builtin.List.listUpdate (.ref s.heap.objs.size) (λ_=>#[]);letGo old.toList.reverse;Builtin.List.listExtendWith (.ref s.heap.objs.size) (.ref z) .none) _ _ _;refine wX ?_;unfold Builtin.List.listItems;refine wX (wpAny_seqItems hS rfl (wY ?_));show wpAny _ _ (updateSeq s.heap.objs.size (λ_=>#[])>>=λ_=>letGo (#[]:AV).toList.reverse>>=λ_=>Builtin.List.listExtendWith (.ref s.heap.objs.size) (.ref z) .none) _ _ _;refine wX (wpAny_updateSeq hS rfl ?_);have I2:=I1.lset (t':=s.toks) (ys:=[]) (its':=[]) (f:=λ_=>#[]) aC hS rfl .nil (uN _);have M:=Xc.keep (h':=(s.heap.push { cls:=.type "list",data:=.seq #[] }).update s.heap.objs.size (Obj.mapSeq λ_=>(#[]:AV))) G λb o hb e=>(Heap.get?_update_other _ _ (Ne.symm hb)).trans e;rw[mE]at I2;generalize hg2:(s.heap.push { cls:=.type "list",data:=.seq #[] }).update s.heap.objs.size (Obj.mapSeq λ_=>(#[]:AV))=g2 at I2 M ⊢;obtain⟨_,Xd,c2,v2,_,KS⟩:=I2.lstM aC;have e2:=v2.zero;subst e2;refine wX (wpAny_letGo ?_);unfold Builtin.List.listExtendWith;refine wX (wpAny_typeOf (T:="zip") M.ty ?_);have Xe:Builtin.List.listSameRef (.ref s.heap.objs.size) (.ref z)=false:=by simp[Builtin.List.listSameRef,nz]
 have NM:(Value.type "zip" == Value.type "list")=false:=by decide
 have QH:(Value.type "zip" == Value.type "tuple")=false:=by decide
 simp only[Xe,NM,QH,Bool.or_false,uV,if_false];have QA:IsZip g2 z TI TO .none:=by
  rw[←hg2];exact(Heap.get?_update_other _ _ nz).trans (vZ _ hz)
 refine wX (wpAny_pyIter_zip QA ?_);refine wX (wpAny_holding ?_);unfold Builtin.List.listLengthHint;refine wX (wpAny_specialOf (T:="zip") M.ty Bg ?_);show wpAny _ _ (specialOf (Value.ref z) (Str.ofString "__length_hint__")>>=_) _ _ _;refine wX (wpAny_specialOf (T:="zip") M.ty zo ?_);refine wY ?_;show wpAny _ _ (rule "list.extend.makes-room" >>= λ_=>Builtin.List.listTouch (.ref s.heap.objs.size)>>=λ_=>
  again (.builtin "list.extend.loop" ⟨[.ref s.heap.objs.size,.ref z,.none],[]⟩)) _ _ _
 refine wX (wpAny_rule ?_);refine wX ?_;show wpAny _ _ (updateSeq s.heap.objs.size (·.push .none)>>=λ_=>updateSeq s.heap.objs.size (·.pop)) _ _ _;refine wX (wpAny_updateSeq KS rfl ?_);have I3:=I2.lset (t':=s.toks) (ys:=[.non]) (its':=[.none]) (f:=(·.push .none)) aC KS rfl (.cons (show bd .non .none from rfl) .nil) (by show 1<=sizeLine;decide);have P0:=M.keep (h':=g2.update s.heap.objs.size (Obj.mapSeq (·.push .none))) G λb o hb e=>(Heap.get?_update_other _ _ (Ne.symm hb)).trans e;rw[mE]at I3;generalize hg3:g2.update s.heap.objs.size (Obj.mapSeq (·.push .none))=g3 at I3 P0 ⊢;obtain⟨_,Xf,c3,v3,_,QB⟩:=I3.lstM aC;obtain⟨n3,rfl,r3⟩:=v3.one;cases r3
 refine wpAny_updateSeq (hz:=by simp<;>decide) QB rfl ?_
 have I4:=I3.lset (t':=s.toks) (ys:=[]) (its':=[]) (f:=(·.pop)) aC QB rfl .nil (uN _);have Xg:=P0.keep (h':=g3.update s.heap.objs.size (Obj.mapSeq (·.pop))) G λb o hb e=>(Heap.get?_update_other _ _ (Ne.symm hb)).trans e;rw[mE]at I4;refine wY ⟨plainId_quiet plain_extend_loop _,DQ (A:=X.A.in1) (B:=B) (H0:=H) hA Z G h1 j1 h2 j2 (λU N vs s' I' MO xt il=>?_) _ 0 _ H B [] rfl (uN _) I4 hc (Ext.refl sB) (λb hb=>?_) Xg .nil⟩
 ·exact⟨rfl,.ref s.heap.objs.size,_,I',rfl,q _ U N vs MO xt il⟩
 ·obtain⟨f0,f1⟩:=fp b hb;refine⟨?_,f1⟩;have nb:b≠s.heap.objs.size:=λe=>G (e ▸ hb);rw[aG nb];exact f0
end
@[simp] def To (fa G:FE):FE:=λρ=>(F5 fa G ρ).map λds=>(.lst ds,true)
section
variable {X:Cx}{a b:Expr}{pos p pos2 p2:Pos}
def Bh (SE:X.calm=true)(hl:X.mg "list" = none)(hm:X.mg "zip" = none)(ha:JE X a fa)(hb:JE X b fb)(Xh:Gl X "list":=by rfl)(hg:Gl X "zip":=by rfl)
  (hs:starEach [a,b] X.env=[(false,eval a X.env),(false,eval b X.env)]:=by rfl) (M:starEach [b] X.env=[(false,eval b X.env)]:=by rfl)
  (QH:starEach [.Call (.Name "zip" p2) [a,b] [] pos2] X.env=[(false,eval (.Call (.Name "zip" p2) [a,b] [] pos2) X.env)]:=by rfl):
  JE X (.Call (.Name "list" p) [.Call (.Name "zip" p2) [a,b] [] pos2] [] pos) (To fa fb):=by
 intro ah s σ H Q I q;obtain⟨B,ρ,d,bb,sB,r,G,jv⟩:=q;obtain⟨zs,U4,e2⟩:=oY G;cases e2
 clear G;have G:=U4;clear U4;obtain⟨x1,ex,G⟩:=oX G;obtain⟨y1,ey,G⟩:=oX G;obtain⟨xs,Xi,G⟩:=oX G;obtain⟨ys,Xj,G⟩:=oY G;subst G;refine wpAny_Call_Name_kw (je I Xh hl Fp ?_ (by decide) (by decide));refine PyProof.Rows.callWith_type1 ?_ (by rw[QH];rfl) rfl;rw[QH];show wpAny _ _ (spliced ((false,eval (.Call (.Name "zip" p2) [a,b] [] pos2) X.env)::backTo pos [])) _ _ s;refine Calls.spliced_cons ?_;refine wpAny_Call_Name_kw (je I hg hm K3 ?_ (by decide) (by decide));refine PyProof.Rows.callWith_type1 (c9 (ai ha (ai hb ao M) (by rw[hs,M]) pos2 ah s σ H (λvs H1=>∃N1,Ext B N1 H H1/\IsL X.K N1 vs [x1.1,y1.1]) I ⟨B,ρ,[x1.1,y1.1],sB,r,by simp[ag,aj,ex,ey],λvs H1 N1 U i1=>⟨N1,U,i1⟩⟩) λus s1 ⟨vs,H1,I1,r1,N1,U,il⟩=>?_) (by rw[hs,M]) (by rw[M];rfl);cases il with
 |cons j1 j2=>
  cases j2 with
  |cons j2 j3=>
   cases j3
   obtain⟨k1,l1,XQ,rfl,h1,m1⟩:=yM j1 Xi;obtain⟨k2,l2,XR,rfl,h2,m2⟩:=yM j2 Xj;obtain⟨u1,u2,rfl,PP,Sc⟩:=r1.two;cases PP
   cases Sc
   obtain⟨its,v1,p1,z1⟩:=(h1.same U.nh).vals I1;obtain⟨B8,v2,p2,z2⟩:=(h2.same U.nh).vals I1;have E3:=p1.lt;have O:=p2.lt;refine BX p1 p2 λh' c1 c2 c3 c4 c5 ck=>?_;have D:ZApart (s1.heap.objs.size+4) (s1.heap.objs.size+2) (s1.heap.objs.size+3) s1.heap.objs.size (s1.heap.objs.size+1):=by
    constructor<;>(intro z;exact absurd z (by first|exact vS (Nat.add_lt_add_left (by decide) _)|exact ne_of_gt (Nat.add_lt_add_left (by decide) _)|exact vS (Nat.lt_add_of_pos_right (by decide))|exact ne_of_gt (Nat.lt_add_of_pos_right (by decide))))
   have nf:∀ {l:Addr}(n:Nat),l<s1.heap.objs.size->l≠s1.heap.objs.size+n:=λn hl=>vS (vQ hl (le_add_right _ n));refine Calls.spliced_nil ?_;refine ul (s:={ s1 with heap:=h' }) (k1:=k1) (k2:=k2) (B:=N1) (H:=H1) (I1.ok.hd SE) (I1.kept (t':=s1.toks) ck) ⟨D,⟨nf 4 E3,nf 3 E3,nf 0 E3⟩,⟨nf 4 O,nf 3 O,nf 0 O,nf 1 O⟩⟩ (λb hb=>?_) c2 c4 c5 c1 c3 U.nh h1 m1 h2 m2 λS Hc N vs hS T il2=>?_
   ·have Kl:s1.heap.objs.size<=b:=by
     simp at hb;rcases hb with rfl|rfl|rfl|rfl|rfl
     ·exact le_add_right _ 4
     ·exact le_add_right _ 2
     ·exact le_add_right _ 3
     ·exact vT _
     ·exact le_add_right _ 1
    exact I1.fpOk Kl (I1.hok.fresh Kl)
   ·have x3:=(U.trans T).trans (Ext.laid (o:=.lst vs) T.nh hS);have U5:=il2.mono (Ext.laid (o:=.lst vs) T.nh hS).bn;exact jv _ _ _ x3 (.lst (iQ.of aC) U5) λ_=>⟨_,_,_,rfl,rfl,(U.trans T).hh.free hS,aC,U5⟩
end
end DL
namespace DL
open PySem PySem.Spec PyProof.Rows
def xK:typeLookup (.type "list") "keys" = pure none:=by rw[typeLookup_type,builtinLookup_eq_fast];kernel_rfl
def DR 
  (hx:s.heap.get? a=some { cls:=.type "list",dict:=none,data:=.seq xs k,slots:=sl }) (O:A.handled=none)
  (h:∀h' tk,(∀b o,s.heap.get? b=some o->h'.get? b=some o)->Q none { s with heap:=h',toks:=tk }):
  wpAny (model prog w) A (getAttr? (.ref a) "keys") Q E s:=by
 obtain⟨hp,g,d,tk,os⟩:=s;have M:∀G,(⟨hp,g,d,G,os⟩:Shared).TypeIs (.ref a) "list":=λ_=>⟨_,hx,rfl⟩;have f1:=sub_AttributeError;have f3:=slot_list_getattribute.lookup;have f4:=slot_list_getattribute.bind (.ref a);have f5:=am_list_getattr_none;unfold getAttr? getAttrBy? getAttrBy;repeat (any_goals (first|assumption|exact M _|((with_reducible show wpAny _ _ (call (Value.builtin "list.__getattribute__") _ _) _ _ _);refine call_meets slot_list_getattribute (M _) am_entry_list_getattribute (PySem.F.args_list_getattribute_2 _ _) (meets_getattribute_miss_list a xs k sl "keys" _ xK (by decide) (by decide)) ⟨hx,O,λh' G e hx'=>?_⟩)|wp_step))
 obtain⟨t',T,he⟩:=hx'.there;show wpAny _ _ (getattributeRaised _ _ _ _ _ _ _) _ _ _;unfold getattributeRaised;repeat (any_goals (first|assumption|wp_step))
 exact h _ _ hx'.of.keeps
end DL
namespace DL
open PySem PySem.Spec PyProof.Rows L2
def jj:LD->Option (List (eQ×D))
 |[]=>some []
 |.tup [k,v]::r=>(lN k).bind λG=>(jj r).map λl=>(G,v)::l
 |_=>none
noncomputable def ri (a:LK×LD)(p:eQ×D):LK×LD:=(dN a.1 p.1,dO a.1 a.2 p.1 p.2)
noncomputable def cb (l:List (eQ×D)):LK×LD:=l.foldl ri ([],[])
def rj (l:List (eQ×D))(p:eQ×D):cb (l++[p])=ri (cb l) p:=by unfold cb;rw[foldl_append];rfl
theorem rm:∀ {ds:LD}{l:List (eQ×D)},jj ds=some l->l.length=ds.length
 |[],l,h=>by simp[jj]at h;subst h;rfl
 |d::r,l,h=>by
  unfold jj at h;split at h
  ·rename_i h0;cases h0
  ·rename_i k v G h0;cases h0
   obtain⟨M,_,h⟩:=oX h;obtain⟨O,h1,rfl⟩:=oY h;simp[rm h1]
  ·cases h
theorem ro:∀ {ds:LD}{l:List (eQ×D)}{i:Nat}{d:D},jj ds=some l->ds[i]? = some d->∃k v G,d=.tup [k,v]/\lN k=some G/\l[i]? = some (G,v)
 |[],l,i,d,_,h=>by simp at h
 |d0::r,l,i,d,h,hi=>by
  unfold jj at h;split at h
  ·rename_i h0;cases h0
  ·rename_i k v M h0;cases h0
   obtain⟨G,h2,h⟩:=oX h;obtain⟨O,h1,rfl⟩:=oY h;cases i with
   |zero=>simp at hi;subst hi;exact⟨k,v,G,rfl,h2,rfl⟩
   |succ i=>simp only[getElem?_cons_succ]at hi ⊢;exact ro h1 hi
  ·cases h
def Gm (l:List (eQ×D)):∀a:LK×LD,a.1.length=a.2.length->(l.foldl ri a).1.length=(l.foldl ri a).2.length/\(l.foldl ri a).1.length<=a.1.length+l.length:=by
 induction l with
 |nil=>intro a h;exact⟨h,vT _⟩
 |cons p l G=>
  intro a h;have h1:(ri a p).1.length<=a.1.length+1:=by
   show(dN _ _).length<=_;unfold dN;split<;>simp
  have:=G (ri a p) (nj h _ _);rw[foldl_cons,vE];exact⟨this.1,by omega⟩
def DS (l:List (eQ×D)):(cb l).1.length=(cb l).2.length/\(cb l).1.length<=l.length:=by
 have:=Gm l ([],[]) rfl;exact⟨this.1,vR this.2 (by simp)⟩
def v0:entryFor table "dict.update.loop" = some Builtin.«dict.update.loop»:=entryFor_of_tree (by kernel_rfl)
def ly:plainId "dict.update.loop" = true:=by decide +kernel
section
variable {X:Cx}{ah:AO}{σ:St}{B H0:Hp}{A:Around}{R:Result->Shared->Prop}{it l d:Addr}{us:LV}{ds:LD}{jI:List (eQ×D)}
def Bi (hA:A.handled=none)(nl:l≠it)(nd:d≠it)(hl:iQ X.K B l us)(il:IsL X.K B us ds)(hp:jj ds=some jI)
  (hR:∀G N vs ob s',Inv X ah σ (upd G d (.dK ((cb jI).1.zip vs) ob)) s'->G d=none->Ext B N H0 G->(cb jI).1.length=vs.length->IsL X.K N vs (cb jI).2->R (.ok (.ret .none)) s'):
  ∀(k i:Nat)(tk:Nat)(s:Shared)(G N:Hp)(vs:LV)(ob:Obj),ds.length - i=k->i<=ds.length->Inv X ah σ (upd G d (.dK ((cb (jI.take i)).1.zip vs) ob)) s->G d=none->Ext B N H0 G->lZ X ah (upd G d (.dK ((cb (jI.take i)).1.zip vs) ob)) it ->
   s.heap.IsListIter it l i->(cb (jI.take i)).1.length=vs.length->IsL X.K N vs (cb (jI.take i)).2 ->
   codeAny (model X.prog X.w) A (.builtin "dict.update.loop" ⟨[.ref d,.ref it,.int i tk,.none],[]⟩) R s:=by
 have n1:=il.length;have n2:=rm hp;intro k;induction k with
 |zero=>
  intro i tk s G N vs ob hk hi I hc M fp st hz hv;have Hs:i=ds.length:=by omega
  have sm:bc B (upd G d (.dK ((cb (jI.take i)).1.zip vs) ob)):=(M.bn.trans M.nh).trans (kM hc);obtain⟨its,r1,p1,z1⟩:=I.list (sm.seq hl);have e1:=r1.length;refine codeAny_builtin v0 ?_;rw[Around.under_plainId ly _];show wpAny _ A.in1 (pyNext (.ref it)>>=_) _ _ s;refine wX (wpAny_pyNext_list_end (A:=A.in1) hA st p1.isList (by simp;omega) λh' KU=>?_);show wpAny _ _ (Builtin.Dict.addKeywords d []>>=_) _ _ _;refine wX (wY (wY ?_));have I1:=jQ (t':=s.toks) (h':=h') (ch:=[it]) I (λb hb=>by rw[uT hb];exact fp) λb o hb e=>KU b o (λq=>hb (by simp[q])) e;rw[Hs,←n2,take_length]at I1 hz hv;exact hR G N vs ob _ I1 hc M hz hv
 |succ k ih=>
  intro i tk s G N vs ob hk hi I hc M fp st hz hv;have U:i<ds.length:=by omega
  have sm:bc B (upd G d (.dK ((cb (jI.take i)).1.zip vs) ob)):=(M.bn.trans M.nh).trans (kM hc);obtain⟨its,r1,p1,z1⟩:=I.list (sm.seq hl);obtain⟨kd,vd,O,ed,ek,el⟩:=ro hp (vU U);obtain⟨x,hx,ix⟩:=il.get (vU U);rw[ed]at ix;cases ix with
  |@tup T xs _ hT hxs=>
   cases hxs with
   |cons ik r=>
    cases r with
    |cons iv r=>
     cases r
     rename_i xk xv;have Xk:=vy ik ek;subst Xk;obtain⟨u,hu,ru⟩:=r1.get hx;cases (show u=Value.ref T from ru)
     refine codeAny_builtin v0 ?_;rw[Around.under_plainId ly _];show wpAny _ A.in1 (pyNext (.ref it)>>=_) _ _ s;refine wX (wpAny_pyNext_list_item (A:=A.in1) st p1.isList (x:=.ref T) (by simpa using hu) λh' MY hs=>?_);have I1:=jQ (t':=s.toks) (h':=h') (ch:=[it]) I (λb hb=>by rw[uT hb];exact fp) λb o hb e=>hs.extBut b o (λq=>hb (by simp[q])) e;obtain⟨ps,r2,p2,z2⟩:=I1.tuple (bC sm hT);obtain⟨uk,uv,rfl,rk,rv⟩:=r2.two;have Xl:Shared.TypeIs { s with heap:=h' } (.ref T) "tuple":=by obtain⟨o,e,c,_⟩:=p2;exact⟨o,e,c⟩
     dsimp only;refine wX (wpAny_holding (wX (wpAny_tryCatch ?_)));unfold Builtin.Dict.pairItems;refine wX (wpAny_typeOf Xl ?_);obtain⟨oT,eT,cT,nT,dT⟩:=p2;rw[if_pos (by decide)];refine wX (wpAny_seqItems eT dT (wY ?_));show wpAny _ _ (holding [uk,uv] (dictSet d uk uv)) _ _ _;obtain⟨zz,Uy,Xm,U6,dd⟩:=qy I1.hok (a:=d) aC;have Xn:Xm.length<=sizeLine:=by rw[←U6.length];exact zz
     have nk:((cb (jI.take i)).1.zip vs).length<sizeLine:=by
      have a1:=(DS (jI.take i)).2;have a2:=z1;rw[length_take]at a1;rw[length_zip];omega
     refine wpAny_holding (wpAny_dictSet_pairs (hsz:=Xn) (yv rk) dd λh2 dd2 NM=>?_);have NF:(mH ((cb (jI.take i)).1.zip vs) O xv).length<=sizeLine:=by have:=ky ((cb (jI.take i)).1.zip vs) O xv;omega
     obtain⟨U7,NG⟩:∃q,h2.get? d=some q:=let ⟨q,_,_,hq,_⟩:=dd2;⟨q,hq⟩;have I2:=wW (t':=s.toks+1) I1 (a:=d) (ob:=.dK (mH ((cb (jI.take i)).1.zip vs) O xv) U7) (by rw[aC];exact True.intro) NM ⟨_,NG⟩ (EU NF Uy (U6.put O rv) dd2 NG);rw[mE,qj hz]at I2;have et:jI.take (i+1)=jI.take i++[(O,vd)]:=by rw[take_add_one,el];rfl
     have U8:(cb (jI.take (i+1))).1=dN (cb (jI.take i)).1 O:=by rw[et,rj];rfl
     have Xo:(cb (jI.take (i+1))).2=dO (cb (jI.take i)).1 (cb (jI.take i)).2 O vd:=by rw[et,rj];rfl
     refine wY ⟨plainId_quiet ly _,?_⟩;refine ih (i+1) 0 _ G N (dO (cb (jI.take i)).1 vs O xv) U7 (by omega) U (by rw[U8];exact I2) hc M ?_ ?_ ?_ ?_
     ·obtain⟨f0,f1⟩:=fp;refine⟨?_,f1⟩;rw[aG nd.symm]at f0 ⊢;exact f0
     ·exact MY.at λo e=>(NM.2 it nd.symm).trans e
     ·rw[U8];exact nj hz _ _
     ·rw[Xo];exact hv.put (iv.mono M.bn)
end
@[simp] def jS:LD->OB
 |[.lst ds]=>(jj ds).map λG=>(.dk (cb G).1 (cb G).2,false)
 |_=>none
def Mr:bootBuiltins "dict" = some (.type "dict"):=by decide +kernel
section
variable {X:Cx}
def Ms (T:X.calm=true):cA X (.type "dict") (E1 X.K jS):=by
 intro ah s σ H xs us Q I r h;obtain⟨B,XS,d0,bb,sB,i0,O,q⟩:=h;cases i0 with
 |nil=>simp[jS]at O
 |cons i1 i2=>
  cases i2 with
  |cons _ _=>cases i1<;>simp[jS]at O
  |nil=>
   cases i1<;>try (simp[jS]at O;done)
   rename_i l ws ds hl il;simp only[jS]at O;obtain⟨U,hp,O⟩:=oY O;cases O
   obtain⟨u,rfl,rx⟩:=kg r;cases rx
   have hA:X.A.handled=none:=I.ok.hd T;refine callType_codes (Q₁:=λobj M=>obj=.ref s.heap.objs.size/\M={ s with heap:=s.heap.push { cls:=.type "dict",data:=.dict #[] } }) PySem.F.kt_called_dict (PySem.F.kt_typeCall_dict_1 _) PySem.F.entry_dict_init (kt_code_dict_new _ ⟨rfl,rfl⟩) ?_;rintro obj M ⟨rfl,rfl⟩;have I1:Inv X ah σ (upd H s.heap.objs.size (.dK [] { cls:=.type "dict",data:=.dict #[] })) { s with heap:=s.heap.push { cls:=.type "dict",data:=.dict #[] } }:=I.laid (t':=s.toks) (λb o e=>vZ _ e) (vT _) (yw s.heap I.big);have U9:H s.heap.objs.size=none:=I.fresh;have hT:Shared.TypeIs { s with heap:=s.heap.push { cls:=.type "dict",data:=.dict #[] } } (.ref s.heap.objs.size) "dict":=⟨_,vY _ rfl,rfl⟩;refine⟨hT,PySem.F.args_dict_init_2 _ _,?_⟩;unfold Builtin.«dict.__init__»;refine wX ?_;unfold Builtin.Dict.selfAndRest;refine wX (wpAny_notOrdered_dict hT ?_);show wpAny _ _ (pure (s.heap.objs.size,[Value.ref l])) _ _ _;refine wY ?_;show wpAny _ _ (Builtin.Dict.updateFrom "dict.__init__" s.heap.objs.size (.ref l) [] .none) _ _ _;unfold Builtin.Dict.updateFrom;have sm:bc B (upd H s.heap.objs.size (.dK [] { cls:=.type "dict",data:=.dict #[] })):=sB.trans (kM U9);obtain⟨its,r1,p1,z1⟩:=I1.list (sm.seq hl);have pl:=p1.isList;obtain⟨ol,nl,G,cl,UA,dl⟩:=p1;have Xp:Shared.TypeIs { s with heap:=s.heap.push { cls:=.type "dict",data:=.dict #[] } } (.ref l) "list":=⟨ol,G,cl⟩;refine wX (wpAny_typeOf Xp ?_);rw[if_pos (by decide)];obtain⟨oc,od,oo,os⟩:=ol;simp only at cl UA dl;subst cl UA dl;refine wX (DR G (by exact hA) λh' tk hk=>?_);dsimp only[Option.isNone_none];rw[if_pos rfl];have I2:Inv X ah σ (upd H s.heap.objs.size (.dK [] { cls:=.type "dict",data:=.dict #[] })) { s with heap:=h',toks:=tk }:=I1.kept (t':=tk) hk;refine wX (wpAny_rule ?_);refine wX (wpAny_pyIter_list (items:=its.toArray) ⟨_,hk _ _ G,rfl,nl,rfl⟩ ?_);have I3:Inv X ah σ (upd H s.heap.objs.size (.dK [] { cls:=.type "dict",data:=.dict #[] })) { s with heap:=h'.push { cls:=.type "list_iterator",data:=.fields #[.ref l,.int 0 0] },toks:=tk }:=I2.kept (t':=tk) λb o e=>vZ _ e;have ld:s.heap.objs.size<h'.objs.size:=vX (hk _ _ (vY _ rfl));have ll:l<h'.objs.size:=vX (hk _ _ G);refine wY ⟨plainId_quiet ly _,Bi (A:=X.A.in1) (B:=B) (H0:=H) (l:=l) (d:=s.heap.objs.size) (it:=h'.objs.size) hA (vS ll) (vS ld) hl il hp (λHc N vs ob s' I' MO xt hz hv=>?_) _ 0 0 _ H B [] _ rfl (uN _) I3 U9 (Ext.refl sB) (I2.fpOk (vT _) (I2.hok.fresh (vT _))) ⟨_,vY _ rfl,rfl,rfl⟩ rfl .nil⟩;refine⟨rfl,.ref s.heap.objs.size,_,I',rfl,?_⟩;have x3:=xt.trans (Ext.laid (o:=.dK ((cb U).1.zip vs) ob) xt.nh MO);exact q _ _ _ x3 (.dk aC hz (hv.mono (Ext.laid (o:=.dK ((cb U).1.zip vs) ob) xt.nh MO).bn)) (by simp)
end
def Nz (h:n+40<cLine):n+1<cLine:=by omega
def iV:LD->Option LK
 |[]=>some []
 |d::ds=>(lN d).bind λk=>(iV ds).map (k :: ·)
theorem Bj {K:Frag}{B:Hp}:∀ {vs:LV}{ds:LD}{ks:LK},IsL K B vs ds->iV ds=some ks->vs=ks.map kV
 |_,_,ks,.nil,e=>by simp[iV]at e;subst e;rfl
 |_,_,ks,.cons i is,e=>by
  simp only[iV]at e;obtain⟨k,h1,e⟩:=oX e;obtain⟨r,h2,rfl⟩:=oY e;rw[vy i h1,Bj is h2];rfl
@[simp] def Gn (M:FE)(fa:FA):FE:=λρ=>(M ρ).bind λx=>(fa ρ).bind λds=>match x.1 with
 |.dt G vs=>if ds.length<=sizeLine then (iV ds).map λk=>((cH G vs k).getD .non,false)else none
 |_=>none
section
variable {X:Cx}{o:Expr}{es:QD}{pos:Pos}
def Go {dJ cF M:Pos}{O:Nat}{fo:FE}{fa:FA}(hu:X.A.units+1<cLine)(ho:JE X o fo)(ha:JA X es fa)(m:M1 X o "get" dJ (.Tuple es O M) cF):JE X (.Call (.Attribute o "get" dJ) [.Tuple es O M] [] cF) (Gn fo fa):=by
 refine PE.to (yx hu ho (A8 ha) m) λσ H Q q=>?_;obtain⟨B,ρ,d,bb,sB,r,G,q⟩:=q;obtain⟨x,ex,G⟩:=oX G;obtain⟨ds,ey,G⟩:=oX G;refine⟨B,ρ,x.1,x.2,sB,r,ex,λv H1 N1 O i1 ff=>?_⟩;obtain⟨xd,xb⟩:=x;cases i1 with
 |@dt a ks vs MQ h hl hs=>
  simp only at G;split at G
  ·rename_i hz;obtain⟨k,hk,G⟩:=oY G;cases G
   refine⟨a,rfl,.inr ⟨_,.inl (O.nh _ _ h)⟩,N1,ρ,ds,O.nh,r.mono O.bn,ey,λus H2 N2 U i2=>?_⟩;have hv:=Bj i2 hk;have Xq:us.length<=sizeLine:=by rw[i2.length];exact hz
   refine⟨Xq,λp hp=>?_⟩;have T:=Ext.laid (o:=.tup us) U.nh hp;have Xr:N2 a=some (.dT (ks.zip vs)):=U.bn _ _ h;refine⟨kx (ks.zip vs) k,.inr ⟨_,k,p,.inl (T.nh _ _ (T.bn _ _ Xr)),rfl,by rw[aC,hv],rfl⟩,?_⟩;have NM:=(hs.mono U.bn).mono T.bn;rcases xJ k hl NM with⟨v,d',e1,e2,i3⟩|⟨e1,e2⟩
   ·rw[e1];rw[e2]at q;exact(q.into ((O.trans U).trans T)).one T.nh i3
   ·rw[e1];rw[e2]at q;exact(q.into ((O.trans U).trans T)).one T.nh .non
  ·cases G
 |_=>simp at G
end
section
variable {K:Frag}{E:Ends}{σ:St}{H:Hp}
def wa (i:Nat)(M:FA)(O:FE):FS:=λρ=>match ρ[i]? with
 |some (some (.dt ks vs,true))=>(O ρ).bind λv=>(M ρ).bind λkd=>(iV kd).bind λG=>if b8 v.1=true/\ks.length<sizeLine/\kd.length<=sizeLine then some (.nx (ρ.set i (some (.dt (dN ks G) (dO ks vs G v.1),true))))else none
 |_=>none
def Gp {i:Nat}{M:FA}{O:FE}(q:oe K (wa i M O) E σ H):BI (pP i) (Oq (Nt K M)) (tD K O) E σ H:=by
 obtain⟨B0,H0,ρ,r,⟨N,s⟩,e,p⟩:=q;unfold wa at e;split at e
 ·rename_i ks ds ei;obtain⟨v,ev,e⟩:=oX e;obtain⟨kd,ek,e⟩:=oX e;obtain⟨kk,hk,e⟩:=oX e;split at e
  ·rename_i hx;cases e
   refine⟨N,ρ,v.1,v.2,s.ext.nh,s.rep,ev,λv1 H1 N1 x1 i1 _=>?_⟩;have s1:=s.grow x1;obtain⟨a,o,h1,h2,h3,h4⟩:=s1.ow i _ ei;refine⟨.ref a,h1,N1,ρ,kd,s1.ext.nh,s1.rep,ek,λus H2 N2 T i2=>?_⟩;have s2:=s1.grow T;have hv:=Bj i2 hk;refine⟨by rw[i2.length];exact hx.2.2,λpp hp=>?_⟩;have U:=Ext.laid (o:=.tup us) s2.ext.nh hp;have G:=s2.grow U;obtain⟨a',o',k1,k2,k3,k4⟩:=G.ow i _ ei;rw[h1]at k1;cases k1
   cases k4 with
   |@dt ks vs ds hl h5=>
    refine⟨a,rfl,.inr ⟨_,kk,pp,G.ext.nh _ _ k2,rfl,by rw[aC,hv],?_,?_⟩⟩
    ·rw[length_zip];omega
    ·rw[qj hl];exact p σ _ ⟨_,G.writeB ei h1 (.dt (nj hl _ _) (h5.put (G.flat ((i1.mono T.bn).mono U.bn) hx.1)))⟩
  ·cases e
 ·cases e
end
section
variable {X:Cx}{pos:Pos}{e:Expr}{es:QD}
def Jb (hu:X.A.units+1<cLine)(hv:JE X e fv)(hk:JA X es fk)(O:X.N[i]? = some y:=by rfl)(G:Nk X.env.scope y:=by first|exact Or.inl rfl|exact Or.inr (Or.inl rfl)|exact Or.inr (Or.inr rfl))(hd:(y == ("__debug__" : Str))=false:=by decide)
  (M:(y == ("__classdict__" : Str))=false:=by decide) (hs:swapsWith e (some (.Subscript (.Name y py) (.Tuple es x1 MP) pt)) pos.line X.env=pure false:=by rfl):JS X (.Assign [.Subscript (.Name y py) (.Tuple es x1 MP) pt] e pos) (wa i fk fv) :=
 PS.to (wZ hu (wM O G hd M) (A8 hk) hv hs) λ_ _ _ q=>Gp q
end
end DL
namespace L2
open PySem PySem.Spec PyProof.Rows
noncomputable def Ru (a:Addr)(aO:List (eQ×V))(ob:Obj):It:=⟨λi H=>H a=some (.dK aO ob)/\i<aO.length,λi H x H'=>H'=H/\∃k,aO[i]? = some (k,x),λi H=>H a=some (.dK aO ob)/\aO.length<=i⟩
def KV.get {aO:List (eQ×V)}{vs:List (eQ×Value)}(r:KV aO vs){i:Nat}{k:eQ}{x:V}(h:aO[i]? = some (k,x)):∃u,vs[i]? = some (k,u)/\bd x u:=by
 unfold KV at r;induction r generalizing i with
 |nil=>simp at h
 |@cons p q ps T hq t G=>
  cases i with
  |zero=>
   cases (show p=(k,x)from vK h)
   obtain⟨M,O⟩:=q;exact⟨O,by rw[show k=M from hq.1];rfl,hq.2⟩
  |succ i=>exact G h
def OT (h:(cw P w).is k u=true):bd (kV k) u:=by
 cases k with
 |inl i=>exact Value.isInt_shape h
 |inr z=>exact Value.isStrOf_shape h
section
variable {P:Program}{w:World}{H:Hp}{h:Heap}{a:Addr}
def rq (ok:lH P w H h)(e:H a=some (.dK aO ob))(hd:ob.data=.dict es ep):∃vs,KV aO vs/\h.DictAt (cw P w) a vs ep:=by
 obtain⟨_,_,vs,r,o,G,M,h1,h2,h3,h4⟩:=qy ok e;rw[AF ok e]at h1;cases h1
 rw[hd]at h3;cases h3
 exact⟨vs,r,ob,es,AF ok e,h2,hd,h4⟩
def xL (ok:lH P w H h)(e:H a=some (.dK aO ob)):∃es O,ob.data=.dict es O:=by
 obtain⟨_,_,vs,r,o,G,M,h1,h2,h3,h4⟩:=qy ok e;rw[AF ok e]at h1;cases h1
 exact⟨G,M,h3⟩
end
def DT {P:Program}{w:World}{K:Frag}{tg:Expr}(a it:Addr)(aO:List (eQ×V))(ob:Obj){es:Array DictEntry}{ep:Nat}(hd:ob.data=.dict es ep):Turn P w K tg (Ru a aO ob) [it] it (λi h=>h.IsValIter it a i aO.length ep) where
 mem:=by simp
 obj:=λi h st b hb=>by
  have e:b=it:=by simpa using hb
  subst e;obtain⟨o,e,c,d⟩:=st;exact⟨o,e,λv z=>by rw[d]at z;cases z⟩
 keep:=λi h h' st k=>st.at λo e=>k it (by simp) o e
 item:=by
  intro X O hw T hc i ah s σ H E I hf st U;subst O hw T;obtain⟨hH,M⟩:=U;obtain⟨vs,r,m⟩:=rq I.hok hH hd;obtain⟨f0,f1,f2,f3,f4,f5⟩:=hf it (by simp);have hl:vs.length=aO.length:=(Paired.length r).symm;obtain⟨u,hu,ru⟩:=r.get (k:=aO[i].1) (x:=aO[i].2) (vU M);refine wpAny_pyNext_values_item (by rw[hl];exact st) m hu λh' G sb=>?_;rw[hl]at G;have I1:Inv X ah σ H { s with heap:=h' }:=I.turned (t':=s.toks) (λb o hb e=>(sb.2 b hb).trans e) f0 f1 f3 f4 f5;obtain⟨o,e,c,d⟩:=id G;exact⟨u,rfl,uu (s:={ s with heap:=h' }) e c d (by decide) ⟨aO[i].2,H,I1,ru,⟨rfl,aO[i].1,vU M⟩,G,λb hb=>(hf b hb).1⟩⟩
 done:=by
  intro X O hw T hc i ah s σ H E I hf st U;subst O hw T;obtain⟨hH,Kl⟩:=U;obtain⟨vs,r,m⟩:=rq I.hok hH hd;obtain⟨f0,f1,f2,f3,f4,f5⟩:=hf it (by simp);have hl:vs.length=aO.length:=(Paired.length r).symm;exact wpAny_pyNext_values_end (I.ok.hd hc) (by rw[hl];exact st) m (getElem?_eq_none (by omega)) λh' eb=>⟨rfl,I.turned (t':=s.toks) (λb o hb e=>eb b o hb e) f0 f1 f3 f4 f5⟩
 self:=λ_ _ _ _ _ st h=>wpAny_pyIter_valiter st h
section
variable {X:Cx}{tg:Expr}
def OU (M:TE):TI:=λσ H R=>M σ H λx G=>∃a aO ob,x=.ref a/\G a=some (.dK aO ob)/\R (Ru a aO ob) G
def Jc {o:Expr}{td:TE}{dJ cF:Pos}(ho:PE X o td)(G:attributeBase o "values" X.env (eval o X.env)=eval o X.env:=by rfl)(M:(dJ.endLine == cF.line)=true:=by rfl):PI X tg (.Call (.Attribute o "values" dJ) [] [] cF) (OU td):=by
 intro ah s σ H R I h;refine wpAny_Call_method0_late G M (c9 (ho ah s σ H _ I h) λv s1 ⟨x,H1,O,r1,a,aO,ob,ex,U,q⟩=>?_);subst ex;obtain⟨h1,h2⟩:=AE O r1 (T:="dict") (.inr (.inr (.inl ⟨rfl,.inl ⟨aO,ob,U⟩⟩)));cases r1
 obtain⟨es,ep,hd⟩:=xL O.hok U;obtain⟨vs,r,m⟩:=rq O.hok U hd;have hl:vs.length=aO.length:=(Paired.length r).symm;refine⟨"dict","dict.values",plainAttrs_dict,PySem.F.slot_dict_values,PySem.F.type_dict_values,h1,h2,Calls.callWith_builtin rfl (PySem.evalArgs_none ?_)⟩;refine call_meetsIn PySem.F.slot_dict_values h1 PySem.F.entry_dict_values (PySem.F.args_dict_values_1 _) (meets_dict_values (cw X.prog X.w) a (qy O.hok U).2.1) ⟨⟨vs,m.dictOf⟩,?_⟩;have I2:Inv X ah σ H1 { s1 with heap:=s1.heap.push { cls:=.type "dict_values",data:=.fields #[.ref a] } }:=O.kept (t':=s1.toks) λb o e=>vZ _ e;refine wpAny_pyIter_values (v:=s1.heap.objs.size) ⟨_,vY _ rfl,rfl,rfl⟩ (m.keep λb o e=>vZ _ e) ?_;rw[hl];refine⟨(s1.heap.push { cls:=.type "dict_values",data:=.fields #[.ref a] }).objs.size,[(s1.heap.push { cls:=.type "dict_values",data:=.fields #[.ref a] }).objs.size],_,_,H1,rfl,I2.kept (t':=s1.toks) λb o e=>vZ _ e,DT a _ aO ob hd,⟨_,vY _ rfl,rfl,rfl⟩,λb hb=>?_,q⟩;have e:b=(s1.heap.push { cls:=.type "dict_values",data:=.fields #[.ref a] }).objs.size:=by simpa using hb
 subst e;exact I2.fpOk (vT _) (I2.hok.fresh (vT _))
end
end L2
namespace DL
open PySem PySem.Spec PySem.W PyProof.Rows L2
noncomputable def kD:eQ->D
 |.inl i=>.int i
 |.inr z=>.str z
def OV {K:Frag}{B:Hp}(k:eQ):Is K B (kV k) (kD k):=by
 cases k with
 |inl i=>exact .int i
 |inr z=>exact .str z
section
variable {K:Frag}{B:Hp}
def Jd {a:Addr}{ks:LK}{vs:LV}{ds:LD}{ob:Obj}(h:B a=some (.dK (ks.zip vs) ob))(hl:ks.length=vs.length)(hs:IsL K B vs ds):om K (Ru a (ks.zip vs) ob) B ds:=by
 intro i H s;have hz:(ks.zip vs).length=vs.length:=by rw[length_zip];omega
 refine⟨λd ed=>?_,λG=>⟨s _ _ h,by rw[hz,hs.length];exact G⟩⟩;obtain⟨v,O,iv⟩:=hs.get ed;have M:i<vs.length:=(vV O).1;refine⟨⟨s _ _ h,by rw[hz];exact M⟩,λy T hy=>?_⟩;obtain⟨rfl,k,e⟩:=hy;have:=(getElem?_zip_eq_some.mp e).2;rw[O]at this;cases this
 exact⟨B,.refl s,iv⟩
end
section
variable {X:Cx}{e:Expr}{tg:Expr}
@[simp] noncomputable def rz (f:FE):FA:=λρ=>(f ρ).bind λx=>match x.1 with|.dk _ ds=>some ds|_=>none
def Ct (h:JE X e f)(G:attributeBase e "values" X.env (eval e X.env)=eval e X.env:=by rfl)(M:(dJ.endLine == cF.line)=true:=by rfl):JI X tg (.Call (.Attribute e "values" dJ) [] [] cF) (rz f):=by
 intro ah s σ H R I q;obtain⟨B,ρ,ds,T,r,U,q⟩:=q;obtain⟨⟨xd,xb⟩,ex,es⟩:=oX U;cases xd<;>try (cases es;done)
 cases es
 refine Jc h G M ah s σ H R I ⟨B,ρ,_,_,T,r,ex,λv H1 N1 O i1 _=>?_⟩;cases i1 with
 |@dk a ks vs ds ob hd hl hs=>exact⟨a,_,ob,rfl,O.nh _ _ hd,q _ H1 N1 O (Jd hd hl hs)⟩
end
end DL
namespace DL
open PySem PySem.Spec PyProof.Rows L2
@[simp] abbrev bW (i:Nat)(j:Int):FE:=f2 bH (am i) (fC (.int j))
def aZ (F:Fn X.prog X.w X.K X.mg X.base k x f)(O:eP j X.A)(ha:JA X (e::es) fa)(hj:k<=j:=by decide)(T:Gl X x:=by rfl)(G:(x == ("__debug__" : Str))=false:=by decide)(he:starEach (e::es) X.env=(false,eval e X.env)::starEach es X.env:=by rfl)(M:(backTo pos (starEach es X.env)).any (·.1)=false:=by rfl):JE X (.Call (.Name x p) (e::es) [] pos) (fA f fa):=BL F (O.mono hj) ha T G he M
def OW (h1:∀y∈scope.names,y.2≠.cell:=by decide +kernel)(h2:scope.kind=.function:=by rfl)(h3:∀y∈scope.names,y.2=.local->scope.names.lookup y.1=some .local:=by decide +kernel)(G:(scope.names.all λy=>!(y.2 == NameKind.free) || (X.env.cells.lookup y.1).isSome)=true:=by rfl):CompSc X scope (dX scope.names X.env.cells []):=LP h1 h2 h3 G
def Tp (h1:N'[j]? = some x)(h2:X.N[i]? = some x)(t:nZ X N' scope (dX scope.names X.env.cells []) (j+1) r)(h3:X.env.kindOf x=some .cell∨X.env.kindOf x=some .free:=by exact Or.inl rfl)(h4:(relabel scope X.env).names.lookup x=some .cell∨(relabel scope X.env).names.lookup x=some .free:=by exact Or.inl rfl)(hf:(x,NameKind.free)∈scope.names:=by decide +kernel)(hc:(X.env.cells.lookup x).isSome=true:=by rfl):nZ X N' scope (dX scope.names X.env.cells []) j (i::r):=.cons h1 h2 h3 h4 (qe hf hc) t
end DL
namespace DL
open PySem PySem.Spec PySem.W PyProof.Rows L2
noncomputable def o8:At->D
 |.i n=>.int n
 |.s z=>.str z
section
variable {prog:Program}{w:World}{A:Around}{E:QV}{s:Shared}
def OX (hx:Ay x u)(hy:Ay y v):SeqAt.EqAt A s u v (cQ (o8 x) (o8 y)):=by
 cases x with
 |i a=>
  obtain⟨t,rfl⟩:=hx;cases y with
  |i c=>obtain⟨t',rfl⟩:=hy;simp only[o8,cQ];exact SeqAt.EqAt.int_int _ _ _ _
  |s c=>obtain⟨t',rfl⟩:=hy;simp only[o8,cQ];exact SeqAt.EqAt.int_str _ _ _ _
 |s a=>
  obtain⟨t,rfl⟩:=hx;cases y with
  |i c=>obtain⟨t',rfl⟩:=hy;simp only[o8,cQ];exact SeqAt.EqAt.str_int _ _ _ _
  |s c=>obtain⟨t',rfl⟩:=hy;simp only[o8,cQ];exact SeqAt.EqAt.str_str _ _ _ _
theorem Cu:∀ {xs ys:List At}{vs:LU},Paired Ay xs vs->Paired Ay ys vs->xs=ys
 |_,_,_,.nil,.nil=>rfl
 |x::xs,y::ys,_,.cons p ps,.cons q G=>by
  rw[Cu ps G];congr 1;cases x with
  |i a=>
   obtain⟨t,rfl⟩:=p;cases y with
   |i c=>obtain⟨t',e⟩:=q;cases e;rfl
   |s c=>obtain⟨t',e⟩:=q;cases e
  |s a=>
   obtain⟨t,rfl⟩:=p;cases y with
   |i c=>obtain⟨t',e⟩:=q;cases e
   |s c=>obtain⟨t',e⟩:=q;cases e;rfl
def Mt (x y:At):cQ (o8 x) (o8 y)=true↔x=y:=by
 cases x<;>cases y<;>simp[o8]
theorem qk:∀xs ys:List At,fW (xs.map o8) (ys.map o8)=true↔xs=ys
 |[],[]=>by simp[fW]
 |[],_::_=>by simp[fW]
 |_::_,[]=>by simp[fW]
 |x::xs,y::ys=>by
  rw[uY,uY,fW,vC,Mt,qk xs ys];simp
def Mu (hx:ir s.heap xs x)(hy:ir s.heap ys y)(hu:A.units<cLine):SeqAt.EqAt A s x y (fW (xs.map o8) (ys.map o8)):=by
 obtain⟨a,o,its,n,rfl,ho,hc,hd,r⟩:=hx;obtain⟨b,o',G,m,rfl,M,U,O,r'⟩:=hy;by_cases T:a=b
 ·subst T;rw[ho]at M;cases M;rw[hd]at O;cases O;rw[Cu r r',(qk ys ys).mpr rfl];exact SeqAt.EqAt.same _
 ·have t1:s.heap.IsTuple a its:=⟨o,ho,hc,n,hd⟩;have t2:s.heap.IsTuple b G:=⟨o',M,U,m,O⟩;have l1:xs.length=its.size:=by rw[←vG];exact gf r
  have l2:ys.length=G.size:=by rw[←vG];exact gf r'
  have he:∀j (h1:j<its.size) (h2:j<G.size),SeqAt.EqAt A.in1 s its[j] G[j] (cQ ((xs.map o8).getD j .non) ((ys.map o8).getD j .non)):=λj h1 h2=>by
   have p:=fD (.i 0) Value.none r (i:=j) (by omega);have q:=fD (.i 0) Value.none r' (i:=j) (by omega);have e1:its.toList.getD j Value.none=its[j]:=by rw[vF,getElem?_toList,getElem?_eq_getElem h1];rfl
   have e2:G.toList.getD j Value.none=G[j]:=by rw[vF,getElem?_toList,getElem?_eq_getElem h2];rfl
   rw[e1]at p;rw[e2]at q;have e3:(xs.map o8).getD j .non=o8 (xs.getD j (.i 0)):=by simp[vF,show j<xs.length by omega]
   have e4:(ys.map o8).getD j .non=o8 (ys.getD j (.i 0)):=by simp[vF,show j<ys.length by omega]
   rw[e3,e4];exact OX p q
  have rc:=SeqAt.RcAt.tuples t1 t2 hu he;have PH:((List.range (min its.size G.size)).all (λj=>cQ ((xs.map o8).getD j .non) ((ys.map o8).getD j .non)) && its.size == G.size)=fW (xs.map o8) (ys.map o8):=by
   rw[←l1,←l2];by_cases hl:xs.length=ys.length
   ·rw[←hl,Nat.min_self,beq_self_eq_true,Bool.and_true];have:=jL (λj=>cQ ((xs.map o8).getD j .non) ((ys.map o8).getD j .non)) (xs:=xs.map o8) (ys:=ys.map o8) (by simpa using hl) λj x y e1 e2=>xm j x y e1 e2;rwa [vI]at this
   ·rw[xl (by simpa using hl),beq_eq_false_iff_ne.mpr hl,Bool.and_false]
  rw[PH]at rc;exact SeqAt.EqAt.of_refs T rc
def DU (xs:List At):bp xs xs=some false:=by
 induction xs with
 |nil=>rfl
 |cons x xs G=>cases x<;>rw[bp,if_pos rfl,G]
def Gq (hx:ir s.heap xs x)(hy:ir s.heap ys y)(h:bp (.i n::xs) (.i m::ys)=some b)(hu:A.units<cLine)(q:Q b s)(hn:Ay (.i n) u)(hm:Ay (.i m) v):KatLex prog w A true false Q [(u,v),(x,y)] 0 s:=by
 obtain⟨t,rfl⟩:=hn;obtain⟨t',rfl⟩:=hm;refine kat_cons (wpAny_eqBool_int ?_);rw[bp]at h;by_cases e:n=m
 ·rw[if_pos e]at h;rw[show(n == m)=true by simp[e]];refine kat_yes (kat_cons (Mu hx hy hu _ _ _ _ ?_));by_cases e2:xs=ys
  ·rw[(qk xs ys).mpr e2];rw[e2,DU]at h;cases h
   exact kat_yes (kat_nil q)
  ·rw[Bool.eq_false_iff.mpr λz=>e2 ((qk xs ys).mp z)];refine kat_no (kat_one _ _ ?_);show wpAny _ _ (richCompare .Lt x y) _ _ _;exact FW (Q:=W.BoolBack Q) hx hy h hu (by first|exact q|exact⟨b,rfl,q⟩)
 ·rw[if_neg e]at h;cases h
  rw[show(n == m)=false by simp[e]];exact kat_no (oneLt_int q)
end
def DV (h:Heap)(xs:List At)(v:Value):Prop:=∃n k a o its m u x,xs=.i n::k/\v=.ref a/\h.get? a=some o/\o.cls=.type "tuple"/\o.data=.seq its m/\its.toList=[u,x]/\Ay (.i n) u/\ir h k x
section
variable {prog:Program}{w:World}{A:Around}{E:QV}{s:Shared}
def Je (hx:DV s.heap xs x)(hy:DV s.heap ys y)(h:bp xs ys=some b)(hu:A.units<cLine)(q:Q b s):wpAny (model prog w) A (keyLt' (tuples' true) x y) Q E s:=by
 obtain⟨n,k,a,o,its,m,u,x',rfl,rfl,U,_,hd,ei,an,tx⟩:=hx;obtain⟨n',k',a',o',its',m',u',y',rfl,rfl,M,_,O,G,T,ty⟩:=hy;refine kat_lt U hd M O ?_;rw[ei,G];have hf:decide (its.size<its'.size)=false:=by
  rw[←vG,←vG,ei,G];rfl
 rw[hf];exact Gq tx ty h hu q an T
theorem ph:∀ {ks:List (List At)}{vs:LU},Paired (DV h) ks vs->∃fs,KatTups h vs fs/\fs.length=ks.length/\∀v∈fs,∃n,Ay (.i n) v
 |_,_,.nil=>⟨[],trivial,rfl,by simp⟩
 |k::ks,_,.cons x t=>by
  obtain⟨fs,h1,h2,h3⟩:=ph t;obtain⟨n,k,a,o,its,m,u,M,rfl,rfl,G,hc,hd,ei,an,_⟩:=x;refine⟨u::fs,KatTups.cons G hc hd (by rw[←getElem?_toList,ei];rfl) h1,by simp[h2],λv hv=>?_⟩;rcases vP hv with rfl|hv
  ·exact⟨n,an⟩
  ·exact h3 v hv
def DW (hp:Paired (DV s.heap) ks vs)(hn:0<ks.length)(q:Q (tuples' true) s):wpAny (model prog w) A (keyKind' vs.toArray) Q E s:=by
 obtain⟨fs,h1,h2,h3⟩:=ph hp;refine kat_kind (T:=.type "int") h1 (by omega) (λv hv=>?_) (by decide) q;obtain⟨n,t,rfl⟩:=h3 v hv;exact .now
def Gr (hc:eV ks=true)(hu:A.units<cLine)(hp:Paired (DV s.heap) ks vs):∀(i j:Nat)(C:Bool->Shared->Prop)(s1:Shared),i<ks.length->j<ks.length->s1=s->(∀s',s'=s->C (qX (HC ks) i j) s')->kas_ask prog w A (tuples' true) vs i j C s1:=by
 intro i j C s1 hi hj e M;subst e;unfold kas_ask;have G:ks.getD i []∈ks:=by rw[vF,vU hi];exact getElem_mem hi
 have O:ks.getD j []∈ks:=by rw[vF,vU hj];exact getElem_mem hj
 refine Je (fD [] Value.none hp hi) (fD [] Value.none hp hj) (hV hc G O) hu ?_;have:=M s1 rfl;unfold qX HC at this;rw[zd (uS ⟨_,G,rfl⟩)]at this;exact this
end
def Mv:D->Option (List At)
 |.tup [.int n,.tup es]=>(jR es).map (.i n :: ·)
 |_=>none
def j9:LD->Option (List (List At))
 |[]=>some []
 |d::ds=>(Mv d).bind λa=>(j9 ds).map (a :: ·)
theorem wb:∀ {ds:LD}{ks:List (List At)},j9 ds=some ks->ks.length=ds.length
 |[],_,h=>by simp only[j9]at h;cases h;rfl
 |d::ds,_,h=>by
  simp only[j9]at h;obtain⟨a,h1,h⟩:=oX h;obtain⟨r,h2,h⟩:=oY h;subst h;simp[wb h2]
theorem zp (I:Inv X ah σ H s):∀ {ys:LV}{ds:LD}{ks:List (List At)}{its:LU},bu ys its->IsL X.K H ys ds->j9 ds=some ks->Paired (DV s.heap) ks its
 |_,_,_,_,.nil,.nil,h=>by simp only[j9]at h;cases h;exact .nil
 |_,_,_,_,.cons r T,.cons i U,h=>by
  simp only[j9]at h;obtain⟨a,h1,h⟩:=oX h;obtain⟨t,h2,h⟩:=oY h;subst h;refine .cons ?_ (zp I T U h2);unfold Mv at h1;split at h1
  ·rename_i n es;obtain⟨k,M,rfl⟩:=oY h1;cases i with
   |tup hq hl=>
    cases r
    obtain⟨its',G,⟨o,ho,hc,m,hd⟩,_⟩:=I.tuple hq;cases hl with
    |cons i1 hl=>
     cases hl with
     |cons i2 hl=>
      cases hl
      cases G with
      |cons r1 G=>
       cases G with
       |cons r2 G=>
        cases G
        cases i1
        have hk:dM [D.tup es]=some [k]:=by show(jR es).bind _=_;rw[M];rfl
        have O:=qg I (.cons r2 .nil) (.cons i2 .nil) hk;cases O with
        |cons O _=>exact⟨n,k,_,o,_,m,_,_,rfl,rfl,ho,hc,hd,rfl,r1,O⟩
  ·cases h1
def Jf (hu:A.units<cLine):KK X A j9 λ_=>true:=⟨wb,λI _ _ _ _ r i e _ hc=>have hp:=zp I r i e;⟨λhn _ _ q=>DW hp hn q,Gr hc hu hp⟩⟩
def Gs (hu:X.A.units+40<cLine):KK X X.A.in1.in1 j9 λ_=>true:=Jf (show X.A.units+1+1<cLine by omega)
@[simp] abbrev Bk:FE->(Env->D->Option D)->FE:=xH j9 λ_=>true
end DL
namespace DL
open PySem PySem.Spec PyProof.Rows L2
def OY:Nat->(LU->Prop)->Prop
 |0,P=>P []
 |n+1,P=>∀a,OY n λl=>P (a::l)
theorem Gu:∀n P,OY n P->∀us:LU,us.length=n->P us
 |0,_,h,[],_=>h
 |n+1,_,h,a::us,e=>Gu n _ (h a) us (Nat.succ.inj e)
section
variable {P:Program}{w:World}{K:Frag}{mg:SV}{base:Heap}
def KC (K:Frag)(mg:SV)(x:Str)(c:D):Prop:=∃u v,mg x=some u/\bd v u/\∀B,Is K B v c
def KD (w:World)(K:Frag)(mg:SV)(x:Str)(c:List (Str×D)):Prop:=∃d,mg x=some (.ref d)/\mS K w.params d c
def kc_of {x:Str}{c:D}{h:Heap}(X:K.In h)(G:h.Ns mainGlobals mg)(k:∃u v,nsIn K mainGlobals x=some (some u)/\bd v u/\∀B,Is K B v c):KC K mg x c:=let ⟨u,v,e,r⟩:=k;⟨u,v,mg_of X G e,r⟩
def kd_of {x:Str}{c:List (Str×D)}{h:Heap}(X:K.In h)(G:h.Ns mainGlobals mg)(k:∃d,nsIn K mainGlobals x=some (some (.ref d))/\mS K w.params d c):KD w K mg x c:=let ⟨d,e,r⟩:=k;⟨d,mg_of X G e,r⟩
def cD.fqL {x:Str}{st:Stmt}{k:Nat}{O:LD->OB}(F:cD K x st)(B:∃h,K.In h/\h.Ns mainGlobals mg)(g:FS)(N:LS)(n:Nat)
  (hb:∀ {f:Addr}{cS:Value}{A:Around}{outer:List PySem.Env}{s:Shared}{H:Hp}{E:XK},N.Nodup->eP k (A.deeper (envOfC x (aK st) s.heap.objs.size f cS))->(A.deeper (envOfC x (aK st) s.heap.objs.size f cS)).units+40<cLine->(∀c P,PySem.W.tabIn K x=some (c,P)->cS=.ref c)->uE (oi yh P w K mg base N x (aK st) f cS A outer s H E).nox (bZ st) g)
  (S:FnScope N (N.take n) (aK st):=by refine⟨rfl,rfl,rfl,?_,rfl,?_,?_⟩<;>decide +kernel)
  (M:∀(kV doc pm:Value)(an:Option Addr)(cS ct:Value)(us:LU),us.length=(N.take n).length->bindArgs (fnOf x x (dL st) (bZ st) (aK st) .none kV doc pm an cS ct) ⟨us,[]⟩=pure ((N.take n).zip us):=by
   exact λ_ _ _ _ _ _=>Gu _ _ (by(repeat intro);rfl))
  (e:aE g (N.take n).length (N.length - (N.take n).length)=O:=by rfl):
  Fn P w K mg base (k+1) x O:=let ⟨_,X,G⟩:=B;e ▸ F.fnL X G S M λ_ _ _ _ _ _ _ hc T=>hb S.nd T (AI T) hc
def cD.fq {x:Str}{st:Stmt}{k:Nat}{M:LD->OB}(F:cD K x st)(B:∃h,K.In h/\h.Ns mainGlobals mg)(g:FS)(N:LS)(n:Nat)
  (hb:∀ {f:Addr}{cS:Value}{A:Around}{outer:List PySem.Env}{s:Shared}{H:Hp}{E:XK},N.Nodup->eP k (A.deeper (envOfC x (aK st) s.heap.objs.size f cS))->(A.deeper (envOfC x (aK st) s.heap.objs.size f cS)).units+40<cLine->uE (oi yh P w K mg base N x (aK st) f cS A outer s H E).nox (bZ st) g)
  (S:FnScope N (N.take n) (aK st):=by refine⟨rfl,rfl,rfl,?_,rfl,?_,?_⟩<;>decide +kernel)
  (G:∀(kV doc pm:Value)(an:Option Addr)(cS ct:Value)(us:LU),us.length=(N.take n).length->bindArgs (fnOf x x (dL st) (bZ st) (aK st) .none kV doc pm an cS ct) ⟨us,[]⟩=pure ((N.take n).zip us):=by
   exact λ_ _ _ _ _ _=>Gu _ _ (by(repeat intro);rfl))
  (e:aE g (N.take n).length (N.length - (N.take n).length)=M:=by rfl):
  Fn P w K mg base (k+1) x M:=F.fqL B g N n (λn r u _=>hb n r u) S G e
end
section
variable {X:Cx}{x:Str}{pos:Pos}
def DX (i:Nat)(G:X.N.Nodup)(hi:X.N[i]? = some x:=by rfl)(hx:Hu X.env.scope x:=by first|exact Or.inl rfl|exact Or.inr rfl)(hf:X.fn x=true∨X.env.scope.names.lookup x=some .local:=by first|exact .inl rfl|exact .inr rfl):PG X (.Name x pos) (jZ i):=BA G hi hx hf
def N6 {fp}(i:Nat)(G:N'.Nodup:=by decide +kernel)(hi:(jg X N' scope cl C s H fp).N[i]? = some x:=by rfl)(hx:Hu (jg X N' scope cl C s H fp).env.scope x:=by exact Or.inl rfl)(hf:(jg X N' scope cl C s H fp).fn x=true∨(jg X N' scope cl C s H fp).env.scope.names.lookup x=some .local:=by first|exact .inl rfl|exact .inr rfl):PG (jg X N' scope cl C s H fp) (.Name x pos) (jZ i):=BA G hi hx hf
def fP (N':LS)(hi:JI X tg gA fi)(hc:∀ {C s H fp},JC (jg X N' scope (dX scope.names X.env.cells []) C s H fp) B7 fc)(he:∀ {C s H fp},JE (jg X N' scope (dX scope.names X.env.cells []) C s H fp) yg fe)
  (M:Kx X.K nT qq g:=by first|exact y0 (by decide)|exact K2 (by decide)) (O:∀ {C s H fp},PG (jg X N' scope (dX scope.names X.env.cells []) C s H fp) tg g:=by intros;first|exact N6 0|exact A2 rfl (jw (N6 0) (jw (N6 1) wO)))
  (T:nZ X N' scope (dX scope.names X.env.cells []) nT cap:=by repeat first|exact .nil rfl|refine Tp rfl rfl ?_)
  (S:CompSc X scope (dX scope.names X.env.cells []):=by exact OW) (G:X.calm=true:=by rfl)
  (hs:∀x,foldedSetIterable gA X.env x=pure x:=by intro _;rfl):
  JE X (.ListComp yg [⟨tg,gA,B7,0⟩] scope pos) (bO fi nT cap qq fc fe):=Ir G S T hi (λ_ _ _ _=>O) M (λ_ _ _ _=>hc) (λ_ _ _ _=>he) hs
def lO (N':LS)(U:X.N.Nodup)(hi:JI X tg gA fi)(hc:∀ {C s H fp},JC (jg X N' scope (dX scope.names X.env.cells []) C s H fp) B7 fc)(he:∀ {C s H fp},JE (jg X N' scope (dX scope.names X.env.cells []) C s H fp) yg fe)
  (M:Kx X.K nT qq g:=by first|exact y0 (by decide)|exact K2 (by decide)) (hg:∀ {C s H fp},PG (jg X N' scope (dX scope.names X.env.cells []) C s H fp) tg g:=by intros;first|exact N6 0|exact A2 rfl (jw (N6 0) (jw (N6 1) wO)))
  (cp:nZ X N' scope (dX scope.names X.env.cells []) nT cap:=by repeat first|exact .nil rfl|refine Tp rfl rfl ?_)
  (O:X.N[i]? = some y:=by rfl) (hy:X.env.kindOf y=some .local:=by rfl)
  (T:swapsWith (.ListComp yg [⟨tg,gA,B7,0⟩] scope pos) (some (.Name y py)) spos.line X.env=pure true:=by rfl)
  (S:CompSc X scope (dX scope.names X.env.cells []):=by exact OW) (G:X.calm=true:=by rfl)
  (hs:∀x,foldedSetIterable gA X.env x=pure x:=by intro _;rfl):
  JS X (.Assign [.Name y py] (.ListComp yg [⟨tg,gA,B7,0⟩] scope pos) spos) (aX i (bO fi nT cap qq fc fe)):=Iu G U O hy T S cp hi (λ_ _ _ _=>hg) M (λ_ _ _ _=>hc) (λ_ _ _ _=>he) hs
def nn (hi:JI X tg gA fi)(G:PG X tg t)(M:Io X.K qq t)(hb:uE X body g)(hp:PassesOwn (model X.prog X.w) X.A X.env X.xe:=by exact PassesOwn.never)(hc:X.calm=true:=by rfl)
  (hs:∀x,foldedSetIterable gA X.env x=pure x:=by intro _;rfl):JS X (.For tg gA body [] pos) (ma fi qq g):=Ma hp hc hi G M hb hs
def Gv (hi:PI X tg gA (Qr X.K fi))(G:PG X tg t)(M:Io X.K qq t)(hb:uE X body g)(hp:PassesOwn (model X.prog X.w) X.A X.env X.xe:=by exact PassesOwn.never)(hc:X.calm=true:=by rfl)
  (hs:∀x,foldedSetIterable gA X.env x=pure x:=by intro _;rfl):JS X (.For tg gA body [] pos) (oS fi qq g):=IA hp hc hi G M hb hs
end
end DL
namespace DL
open PySem PySem.Spec PySem.W PyProof.Rows L2
def r0:entryFor table "dict_itemiterator.__iter__" = some Builtin.«dict_keyiterator.__iter__»:=entryFor_alias (id':="dict_keyiterator.__iter__") (by kernel_rfl) rfl (by decide +kernel) (by kernel_rfl)
def xM (he:IsItemIter s.heap it d i n ep ok ov)(h:Q (.ref it) s):wpAny (model prog w) A (pyIter (.ref it)) Q E s:=by
 have G:s.TypeIs (.ref it) "dict_itemiterator":=⟨_,he,rfl⟩;refine wpAny_pyIter_slot G PySem.F.slot_dict_itemiterator_iter (wpAny_call_entry PySem.F.slot_dict_itemiterator_iter G r0 ?_ (PySem.F.args_dict_itemiterator_iter_1 _));show wpAny _ _ (ret (.ref it)) _ _ s;exact wY ⟨_,rfl,"dict_itemiterator",_,G,PySem.F.slot_dict_itemiterator_next.lookup,h⟩
noncomputable def Rv (a:Addr)(aO:List (eQ×V))(ob:Obj):It:=⟨λi H=>H a=some (.dK aO ob)/\i<aO.length,λi H y H'=>∃T k v,y=.ref T/\H T=none/\H'=upd H T (.tup [kV k,v])/\aO[i]? = some (k,v),λi H=>H a=some (.dK aO ob)/\aO.length<=i⟩
def Bl {P:Program}{w:World}{K:Frag}{es:QD}{kt:Nat}{pt:Pos}(a it:Addr)(aO:List (eQ×V))(ob:Obj){ds:Array DictEntry}{ep:Nat}(hd:ob.data=.dict ds ep):Turn P w K (.Tuple es kt pt) (Rv a aO ob) [it] it (λi h=>∃ok G,IsItemIter h it a i aO.length ep ok G) where
 mem:=by simp
 obj:=λi h st b hb=>by
  have e:b=it:=by simpa using hb
  subst e;obtain⟨ok,G,e⟩:=st;exact⟨_,e,λv z=>by cases z⟩
 keep:=λi h h' st k=>let ⟨ok,G,e⟩:=st;⟨ok,G,k it (by simp) _ e⟩
 item:=by
  intro X hP hw hK hc i ah s σ H E I hf st hg;subst hP hw hK;obtain⟨ok,G,he⟩:=st;obtain⟨hH,M⟩:=hg;obtain⟨vs,r,m⟩:=rq I.hok hH hd;have hl:vs.length=aO.length:=(Paired.length r).symm;obtain⟨u,hu,ru⟩:=r.get (k:=aO[i].1) (x:=aO[i].2) (vU M);have fresh:H s.heap.objs.size=none:=I.hok.fresh (vT _);have O:it≠s.heap.objs.size:=vS (vX he);refine wpAny_pyNext_items_item (by rw[hl];exact he) m hu λkey h' T ho hT hsz hk=>?_;rw[hl]at ho;refine⟨_,rfl,wpAny_letOwnedTupleGo_items (s:={ s with heap:=h' }) ho λh2 NG s2=>?_⟩;have U:Heap.SameBut it h' h2:=s2;have kk:∀b o,b∉[it]->s.heap.get? b=some o->h2.get? b=some o:=λb o hb q=>U.extBut _ _ (λz=>hb (by simp[z])) (hk b o (λz=>hb (by simp[z])) q);have new:bN X.prog X.w (upd H s.heap.objs.size (.tup [kV aO[i].1,aO[i].2])) h2 s.heap.objs.size (.tup [kV aO[i].1,aO[i].2]):=⟨by show 2<=sizeLine;decide,[key,u],.cons (OT T) (.cons ru .nil),⟨_,U.extBut _ _ O.symm hT,rfl,_,rfl⟩⟩;refine⟨.ref s.heap.objs.size,upd H s.heap.objs.size (.tup [kV aO[i].1,aO[i].2]),BZ (s:=s) (t':=s.toks) I hf kk (vT _) new,rfl,⟨_,aO[i].1,aO[i].2,rfl,fresh,rfl,vU M⟩,⟨_,_,NG⟩,λb hb=>?_⟩;have E6:b≠s.heap.objs.size:=by
   have e:b=it:=by simpa using hb
   rw[e];exact O
  rw[aG E6];exact(hf b hb).1
 done:=by
  intro X hP hw hK hc i ah s σ H E I hf st hg;subst hP hw hK;obtain⟨ok,G,he⟩:=st;obtain⟨hH,Kl⟩:=hg;obtain⟨vs,r,m⟩:=rq I.hok hH hd;have hl:vs.length=aO.length:=(Paired.length r).symm;exact wpAny_pyNext_items_end (I.ok.hd hc) (by rw[hl];exact he) m (getElem?_eq_none (by omega)) λh' hk=>⟨rfl,jQ (t':=s.toks) I hf λb o hb q=>hk b o (λz=>hb (by simp[z])) q⟩
 self:=λ_ _ _ _ _ st h=>let ⟨_,_,he⟩:=st;xM he h
section
variable {X:Cx}{es:QD}{kt:Nat}{pt:Pos}{e:Expr}
def Rw (M:TE):TI:=λσ H R=>M σ H λx G=>∃a aO ob,x=.ref a/\G a=some (.dK aO ob)/\R (Rv a aO ob) G
def Gw {o:Expr}{td:TE}{dJ cF:Pos}(ho:PE X o td)(G:attributeBase o "items" X.env (eval o X.env)=eval o X.env:=by rfl)(M:(dJ.endLine == cF.line)=true:=by rfl):PI X (.Tuple es kt pt) (.Call (.Attribute o "items" dJ) [] [] cF) (Rw td):=by
 intro ah s σ H R I h;refine wpAny_Call_method0_late G M (c9 (ho ah s σ H _ I h) λv s1 ⟨x,H1,O,r1,a,aO,ob,ex,U,q⟩=>?_);subst ex;obtain⟨h1,h2⟩:=AE O r1 (T:="dict") (.inr (.inr (.inl ⟨rfl,.inl ⟨aO,ob,U⟩⟩)));cases r1
 obtain⟨es,ep,hd⟩:=xL O.hok U;obtain⟨vs,r,m⟩:=rq O.hok U hd;have hl:vs.length=aO.length:=(Paired.length r).symm;refine⟨"dict","dict.items",plainAttrs_dict,PySem.F.slot_dict_items,PySem.F.type_dict_items,h1,h2,Calls.callWith_builtin rfl (PySem.evalArgs_none ?_)⟩;refine call_meetsIn PySem.F.slot_dict_items h1 PySem.F.entry_dict_items (PySem.F.args_dict_items_1 _) (meets_dict_items (cw X.prog X.w) a (qy O.hok U).2.1) ⟨⟨vs,m.dictOf⟩,?_⟩;have I2:Inv X ah σ H1 { s1 with heap:=s1.heap.push { cls:=.type "dict_items",data:=.fields #[.ref a] } }:=O.kept (t':=s1.toks) λb o e=>vZ _ e;refine wpAny_pyIter_items (v:=s1.heap.objs.size) ⟨_,vY _ rfl,rfl,rfl⟩ (m.keep λb o e=>vZ _ e) ?_;rw[hl];refine⟨(s1.heap.push { cls:=.type "dict_items",data:=.fields #[.ref a] }).objs.size,[(s1.heap.push { cls:=.type "dict_items",data:=.fields #[.ref a] }).objs.size],_,_,H1,rfl,I2.kept (t':=s1.toks) λb o e=>vZ _ e,Bl a _ aO ob hd,⟨_,_,vY _ rfl⟩,λb hb=>?_,q⟩;have e:b=(s1.heap.push { cls:=.type "dict_items",data:=.fields #[.ref a] }).objs.size:=by simpa using hb
 subst e;exact I2.fpOk (vT _) (I2.hok.fresh (vT _))
noncomputable def mr (ks:LK)(ds:LD):LD:=(ks.zip ds).map λx=>.tup [kD x.1,x.2]
def Gx {K:Frag}{B:Hp}{a:Addr}{ks:LK}{vs:LV}{ds:LD}{ob:Obj}(h:B a=some (.dK (ks.zip vs) ob))(hl:ks.length=vs.length)(hs:IsL K B vs ds):om K (Rv a (ks.zip vs) ob) B (mr ks ds):=by
 intro i H s;have hz:(ks.zip vs).length=vs.length:=by rw[length_zip];omega
 have hn:=hs.length;refine⟨λd ed=>?_,λG=>⟨s _ _ h,by unfold mr at G;rw[vI,length_zip]at G;omega⟩⟩;unfold mr at ed;rw[vA]at ed;obtain⟨⟨k0,d0⟩,ek,rfl⟩:=oY ed;obtain⟨e1,e2⟩:=getElem?_zip_eq_some.mp ek;obtain⟨v,O,iv⟩:=hs.get e2;have M:i<vs.length:=(vV O).1;refine⟨⟨s _ _ h,by rw[hz];exact M⟩,λy H3 hy=>?_⟩;obtain⟨T,k,v',rfl,hT,rfl,e⟩:=hy;obtain⟨g1,U⟩:=getElem?_zip_eq_some.mp e;rw[e1]at g1;cases g1;rw[O]at U;cases U;have xt:=Ext.laid (o:=.tup [kV k0,v']) s hT;exact⟨_,xt,.tup (jt.of aC) (.cons (OV _) (.cons (iv.mono xt.bn) .nil))⟩
@[simp] def Cv (f:FE):FA:=λρ=>(f ρ).bind λx=>match x.1 with|.dk ks ds=>some (mr ks ds)|_=>none
def Gy (h:JE X e f)(G:attributeBase e "items" X.env (eval e X.env)=eval e X.env:=by rfl)(M:(dJ.endLine == cF.line)=true:=by rfl):JI X (.Tuple es kt pt) (.Call (.Attribute e "items" dJ) [] [] cF) (Cv f):=by
 intro ah s σ H R I q;obtain⟨B,ρ,ds,T,r,U,q⟩:=q;obtain⟨⟨xd,xb⟩,ex,es⟩:=oX U;cases xd<;>try (cases es;done)
 cases es
 refine Gw h G M ah s σ H R I ⟨B,ρ,_,_,T,r,ex,λv H1 N1 O i1 _=>?_⟩;cases i1 with
 |@dk a ks vs ds ob hd hl hs=>exact⟨a,_,ob,rfl,O.nh _ _ hd,q _ H1 N1 O (Gx hd hl hs)⟩
end
section
variable {K:Frag}{E:Ends}{σ:St}{H:Hp}
def r6 (i:Nat)(M O:FE):FS:=λρ=>match ρ[i]? with
 |some (some (.dk ks vs,true))=>(O (jz ρ)).bind λv=>(M ρ).bind λk=>(lN k.1).bind λG=>if ks.length<sizeLine then some (.nx (ρ.set i (some (.dk (dN ks G) (dO ks vs G v.1),true))))else none
 |_=>none
def DY (q:oe K (r6 i fk fv) E σ H):BI (pP i) (tD K fk) (tD K fv) E σ H:=by
 obtain⟨B0,H0,ρ,r,⟨N,s⟩,e,p⟩:=q;unfold r6 at e;split at e
 ·rename_i ks ds ei;obtain⟨v,M,e⟩:=oX e;obtain⟨k,ek,e⟩:=oX e;obtain⟨O,hk,e⟩:=oX e;split at e
  ·rename_i hx;cases e
   refine⟨dU N (own σ ρ),jz ρ,v.1,v.2,bR.trans s.ext.nh,s.repH,M,λv1 H1 N1 T i1 _=>?_⟩;obtain⟨s1,c⟩:=s.growH T;obtain⟨a,o,h1,h2,h3,h4⟩:=s1.ow i _ ei;refine⟨.ref a,h1,_,ρ,k.1,k.2,s1.ext.nh,s1.rep,ek,λv2 H2 N2 G i2 _=>?_⟩;have s2:=s1.grow G;have hv:=vy i2 hk;subst hv;obtain⟨a',o',k1,k2,k3,k4⟩:=s2.ow i _ ei;rw[h1]at k1;cases k1
   cases k4 with
   |@dk ks vs ds hl h5 ob=>
    refine⟨a,rfl,.inl ⟨_,O,_,s2.ext.nh _ _ k2,rfl,?_,λU=>?_⟩⟩
    ·rw[length_zip];omega
    ·rw[qj hl];exact p σ _ ⟨_,s2.writeB ei h1 (.dk (nj hl _ _) (h5.put ((i1.mono c).mono (eX λa o e q=>⟨G.bn a o e,q⟩))))⟩
  ·cases e
 ·cases e
end
section
variable {X:Cx}{pos:Pos}{e k:Expr}
def Gz (hu:X.A.units+1<cLine)(hv:JE X e fv)(hk:JE X k fk)(O:X.N[i]? = some y:=by rfl)(G:Nk X.env.scope y:=by first|exact Or.inl rfl|exact Or.inr (Or.inl rfl)|exact Or.inr (Or.inr rfl))(hd:(y == ("__debug__" : Str))=false:=by decide)
  (M:(y == ("__classdict__" : Str))=false:=by decide) (hs:swapsWith e (some (.Subscript (.Name y py) k pt)) pos.line X.env=pure false:=by rfl):JS X (.Assign [.Subscript (.Name y py) k pt] e pos) (r6 i fk fv) :=
 PS.to (wZ hu (wM O G hd M) hk hv hs) λ_ _ _ q=>DY q
end
section
variable {prog:Program}{w:World}{A:Around}{E:QV}{s:Shared}
theorem Cw:∀(vs:LU)(ns:LI),vs.length=ns.length->(∀(i:Nat)(v:Value),vs[i]? = some v->∃(m:Int)(t:Tok),ns[i]? = some m/\v=Value.int m t)->IntsAre vs ns
 |[],[],_,_=>.nil
 |v::vs,n::ns,h,k=>by
  obtain⟨m,t,e,rfl⟩:=k 0 v rfl;cases (show some n=some m from e)
  exact .cons n t (Cw vs ns (by simpa using h) λi v hv=>k (i+1) v hv)
def zq (hh:A.handled=none)(lo:(a == sysModules)=false)(hm:s.heap.DictAt (cw prog w) a aO ep)(hk:aO.map (·.1)=ns.map .inl)(NK:ns.length<64)
  (hQ:∀(h1 h':Heap)(tk:Nat)(b:Addr)(out:AV)(n:Nat)(M:LI),(∀c u,s.heap.get? c=some u->h1.get? c=some u)->(∀c u,h1.get? c=some u->h'.get? c=some u)->h1.objs.size<=b->h'.get? b=some (seqObj "list" out n) ->
   IntsAre out.toList M->M.Perm ns->M.Pairwise (·<=·)->Q (.ref b) { s with heap:=h',toks:=tk }):
  wpAny (model prog w) A (call (.builtin "sorted") [.ref a]) Q E s:=by
 refine Calls.call_function_entry kind_sorted plain_sorted entry_sorted (args_sorted1 _) ?_;unfold Builtin.«sorted»;refine wX (m:=checkCount "sorted" 1 1 _) (wY ?_);have U0:aO.length=ns.length:=by have:=congrArg List.length hk;simpa using this
 refine wX (kdu_collect (A:=A.in1) (kdl_dict lo) (by exact hh) hm (by rw[sizeLine_eq];omega) λh1 tk G T O=>?_);have U:G.toList.length=ns.length:=by rw[vG,O.1,U0]
 have E7:IntsAre G.toList ns:=Cw G.toList ns U λi v hv=>by
  obtain⟨k,x,e1,e2⟩:=O.2 i v (by simpa using hv);have e3:(aO.map (·.1))[i]? = some k:=by rw[vA,e1];rfl
  rw[hk,vA]at e3;obtain⟨m,e4,rfl⟩:=oY e3;obtain⟨t,rfl⟩:=Value.isInt_shape (k:=m) (v:=v) e2;exact⟨m,t,e4,rfl⟩
 refine wX (wpAny_newList ?_ (by rw[U,sizeLine_eq];omega));have Py:(h1.push (seqObj "list" G.toList.toArray 0)).get? h1.objs.size=some (seqObj "list" G.toList.toArray 0):=vY _ rfl;show wpAny _ _ _ _ _ { s with heap:=h1.push (seqObj "list" G.toList.toArray 0),toks:=tk };refine wX (wpAny_holding (wpAny_call_entry slot_list_sort ⟨_,Py,rfl⟩ entry_list_sort (list_sort_tree Py E7 (by rw[U];exact NK) λout M a1 a2 a3=>⟨_,rfl,?_⟩) (args_list_sort _)));obtain⟨n,he⟩:=sortedHeap_at (out:=out) Py;refine wY ⟨_,rfl,hQ h1 _ _ _ out n M T (λb u q=>?_) (vT _) he a1 a2 a3⟩;have hl:=vX q;rw[sortedHeap_old (vS hl) (by rw[size_push'];exact lt_succ_of_lt hl)];exact vZ _ q
end
noncomputable def wc:LK->Option LI
 |[]=>some []
 |.inl n::ks=>(wc ks).map (n :: ·)
 |.inr _::_=>none
theorem zr:∀ {ks:LK}{ns:LI},wc ks=some ns->ks=ns.map .inl
 |[],_,h=>by cases h;rfl
 |.inl n::ks,_,h=>by
  obtain⟨r,h1,rfl⟩:=oY h;rw[zr h1];rfl
 |.inr _::_,_,h=>by cases h
def Jg {aO:List (eQ×V)}{vs:List (eQ×Value)}(r:KV aO vs):vs.map (·.1)=aO.map (·.1):=by
 unfold KV at r;induction r with
 |nil=>rfl
 |cons h t G=>rw[uY,uY,G,h.1]
@[simp] def jA:LD->OB
 |[.dk ks _]=>(wc ks).bind λns=>if ns.length<64 then some (.lst ((ra ns).map .int),true)else none
 |_=>none
section
variable {X:Cx}
def DZ (hc:X.calm=true):cA X (.builtin "sorted") (E1 X.K jA):=by
 intro ah s σ H xs us Q I r h;obtain⟨B,dl,d,bb,sB,i,G,q⟩:=h;cases i with
 |nil=>simp[jA]at G
 |cons i1 i2=>
  cases i2 with
  |cons _ _=>cases i1<;>simp[jA]at G
  |nil=>
   cases i1 with
   |@dk a ks vs ds ob hd hl hs=>
    obtain⟨u,rfl,rx⟩:=kg r;cases rx
    simp only[jA]at G;obtain⟨ns,en,G⟩:=oX G;split at G
    ·rename_i O;cases G
     have T:=sB _ _ hd;obtain⟨es,ep,U⟩:=xL I.hok T;obtain⟨Se,r',m⟩:=rq I.hok T U;have Xs:Se.map (·.1)=ns.map .inl:=by rw[Jg r',List.map_fst_zip (by omega),zr en]
     refine zq (I.ok.hd hc) (qy I.hok T).2.1 m Xs O λh1 h' tk b out n ns' k1 k2 hb he E7 M Qh=>?_;have e:=FL M Qh;subst e;have I1:Inv X ah σ H { s with heap:=h1,toks:=tk }:=vk I k1 rfl rfl;have hf:H b=none:=I1.hok.fresh hb;have xt:=Ext.laid (o:=.lst ((ra ns).map V.int)) sB hf;exact⟨.ref b,_,I1.laid (t':=tk) k2 hb (show bN X.prog X.w _ h' _ (.lst ((ra ns).map V.int))from ⟨by rw[vI];unfold ra;rw[(bF _ ns).length_eq,sizeLine_eq];omega,out.toList,n,jy E7,he⟩),rfl,q _ _ _ xt (.lst (iQ.of aC) (rb _)) λ_=>⟨_,_,_,rfl,rfl,hf,aC,rb _⟩⟩
    ·cases G
   |_=>simp[jA]at G
def Mw (hu:X.A.units+1<cLine)(hi:JE X i fi)(T:JE X o fo)(hm:behindInMarks .In o=false:=by first|exact ko _ (by decide) (by decide)|rfl):JE X (.Compare i [.In] [o] pos) (f2 Qv fi fo):=by
 refine PE.to (Lg (LC hu hi T) hm) λσ H Q q=>?_;obtain⟨B,ρ,d,bb,U,r,G,q⟩:=q;obtain⟨y,ey,G⟩:=oX G;obtain⟨x,ex,G⟩:=oX G;refine⟨B,ρ,y.1,y.2,U,r,ey,λv2 H1 N1 M i2 _=>⟨N1,ρ,x.1,x.2,M.nh,r.mono M.bn,ex,λv H2 N2 O i1 ff=>?_⟩⟩;obtain⟨xd,xb⟩:=x;cases i1 with
 |@dk a ks vs ds ob h hl hs=>
  simp only[Qv]at G;obtain⟨k,hk,G⟩:=oY G;cases G
  have hv:=vy i2 hk;subst hv;refine⟨a,kx (ks.zip vs) k,rfl,.inl ⟨_,k,_,.inl (O.nh _ _ h),rfl,rfl⟩,?_⟩;rw[DN hl hs];exact(q.into (M.trans O)).one O.nh (.bl _)
 |_=>simp[Qv]at G
end
end DL
namespace DL
open PySem PySem.Spec PyProof.Rows L2
@[simp] abbrev fV (i:Nat)(g:FA):FA:=ag (am i) g
@[simp] abbrev fI (n:Int):FE:=fC (.int n)
@[simp] abbrev fS (s:PySem.Str):FE:=fC (.str s)
section
variable {X:Cx}{es:QD}{g:FA}{pos:Pos}
def aJ {x:Str}{p:Pos}(i:Nat)(G:JA X es g)(M:PE X (.Name x p) (pP i):=by exact pv)
  (hs:starEach (.Name x p::es) X.env=(false,eval (.Name x p) X.env)::starEach es X.env:=by rfl):JA X (.Name x p::es) (fV i g):=ai (ak i M) G hs
def dH {i:Int}{j:Nat}(G:JA X es g):JA X (.Constant (.int i) j pos::es) (ag (fC (.int i)) g):=ai a9 G
def a0 (F:Fn X.prog X.w X.K X.mg X.base k x f)(O:eP j X.A)(ha:JA X (e::es) g:=by repeat first|exact ao|refine aJ _ ?_|refine ai a7 ?_)(hj:k<=j:=by decide)(T:Gl X x:=by rfl)(G:(x == ("__debug__" : Str))=false:=by decide)(he:starEach (e::es) X.env=(false,eval e X.env)::starEach es X.env:=by rfl)(M:(backTo pos (starEach es X.env)).any (·.1)=false:=by rfl):JE X (.Call (.Name x p) (e::es) [] pos) (fA f g):=BL F (O.mono hj) ha T G he M
def aS (he:JE X e f):uE X [.Return (some e) pos] (aH f):=bv (Fj he)
def br {c:Expr}{G:FT}(hc:JT X c G)(he:JE X e f):JS X (.If c [.Return (some e) p] [] pos) (di G (aH f) aU):=iR hc (bv (Fj he)) jh
def aV (i:Nat)(G:PE X (.Name x p) (pP i):=by exact pv):JE X (.Subscript (.Name x p) (.Constant (.int n) j q) pos) (bW i n):=aY (ak i G) a9
end
@[simp] def Tq (i:Nat)(fa:FA):FS:=λρ=>(fa (jz ρ)).bind λds=>if ds.length<=sizeLine then some (.nx (ρ.set i (some (.lst ds,true))))else none
@[simp] def Tr (i:Nat)(f:FE):FS:=λρ=>match ρ[i]? with
 |some (some (.lst ds,true))=>(f (jz ρ)).bind λx=>if ds.length<sizeLine then some (.nx (ρ.set i (some (.lst (ds++[x.1]),true))))else none
 |_=>none
def Jh (K:Frag)(x:Str)(st:Stmt):Prop:=∃(f T:Addr)(oc:Value)(od an:Option Addr)(kV doc pm cS ct:Value)(lX:Array (Option Value))(G:Obj)(n:Nat),
 K.lookup f=some ⟨oc,od,.func (fnOf x x (dL st) (bZ st) (aK st) (.ref T) kV doc pm an cS ct),lX⟩/\PySem.W.codeIn K cS x=true/\PySem.W.keepIn K (.ref f)=true/\nsIn K mainGlobals x=some (some (.ref f))/\K.lookup T=some G/\G.data=.seq #[.none] n
def defD_mk {K:Frag}{x:Str}{st:Stmt}{f T:Addr}{oc M:Value}{od an O:Option Addr}{lX G:Array (Option Value)}{kV doc pm cS ct:Value}{n:Nat}(a:nsIn K mainGlobals x=some (some (.ref f)))
  (l:K.lookup f=some ⟨oc,od,.func (fnOf x x (dL st) (bZ st) (aK st) (.ref T) kV doc pm an cS ct),lX⟩) (c:PySem.W.codeIn K cS x=true) (k:PySem.W.keepIn K (.ref f)=true) (t:K.lookup T=some ⟨M,O,.seq #[.none] n,G⟩):Jh K x st:=⟨f,T,oc,od,an,kV,doc,pm,cS,ct,lX,_,n,l,c,k,a,t,rfl⟩
structure FnD (P:Program)(w:World)(K:Frag)(mg:Str->Option Value)(base:Heap)(k:Nat)(x:Str)(f:List D->OB):Prop where
 ex:∃(ad:Addr)(fd:FuncData)(ps:List Str),tX P w K mg base yh k ad fd ps (Fk K f)/\mg x=some (.ref ad)/\PySem.W.keepIn K (.ref ad)=true/\oP K fd ps []/\oP K fd ps [.none]
def FnD.fn {P:Program}{w:World}{K:Frag}{mg:SV}{base:Heap}(F:FnD P w K mg base k x f):Fn P w K mg base k x f:=let ⟨ad,fd,ps,h1,h2,h3,h4,_⟩:=F.ex;⟨ad,fd,ps,h1,h2,h3,h4⟩
@[simp] noncomputable def Rx (op:LD->OB)(fa:FA):FE:=λρ=>(fa ρ).bind λds=>op (ds++[.non])
section
variable {X:Cx}{e:Expr}{es:QD}{p pos:Pos}
def OZ (F:FnD X.prog X.w X.K X.mg X.base k x f)(T:eP j X.A)(ha:JA X (e::es) fa)(hj:k<=j:=by decide)(U:Gl X x:=by rfl)
  (G:(x == ("__debug__" : Str))=false:=by decide) (he:starEach (e::es) X.env=(false,eval e X.env)::starEach es X.env:=by rfl) (M:(backTo pos (starEach es X.env)).any (·.1)=false:=by rfl):
  JE X (.Call (.Name x p) (e::es) [] pos) (Rx f fa):=by
 obtain⟨ad,fd,ps,F1,hm,hk,_,hb⟩:=F.ex;refine PE.to (BD F1 (T.mono hj) U hm hk hb (.cons (show L2.bd V.non Value.none from rfl) .nil) Kt ha G he M) λσ H Q q=>?_;obtain⟨B,ρ,d,b,s,r,e,q⟩:=q;obtain⟨ds,ex,e⟩:=oX e;exact⟨B,ρ,ds,s,r,ex,λvs H1 N1 O i1=>⟨N1,ds++[.non],d,b,⟨O.nh,r.tb.mono O.bn⟩,i1.append (.cons .non .nil),e,q.into O⟩⟩
end
section
variable {P:Program}{w:World}{K:Frag}{mg:SV}{base:Heap}
def Jh.fqD {x:Str}{st:Stmt}{k:Nat}{F':LD->OB}(F:Jh K x st)(B:∃h,K.In h/\h.Ns mainGlobals mg)(g:FS)(N:LS)(n:Nat)
  (hb:∀ {f:Addr}{cS:Value}{A:Around}{outer:List PySem.Env}{s:Shared}{H:Hp}{E:XK},N.Nodup->eP k (A.deeper (envOfC x (aK st) s.heap.objs.size f cS))->(A.deeper (envOfC x (aK st) s.heap.objs.size f cS)).units+40<cLine->uE (oi yh P w K mg base N x (aK st) f cS A outer s H E).nox (bZ st) g)
  (S:FnScope N (N.take n) (aK st):=by refine⟨rfl,rfl,rfl,?_,rfl,?_,?_⟩<;>decide +kernel)
  (U:∀(T:Addr)(kV doc pm:Value)(an:Option Addr)(cS ct:Value)(us:LU),us.length=(N.take n).length->∃O,bindArgs (fnOf x x (dL st) (bZ st) (aK st) (.ref T) kV doc pm an cS ct) ⟨us,[]⟩=seqItems? (.ref T)>>=O/\O (some #[.none])=pure ((N.take n).zip us):=by
   exact λ_ _ _ _ _ _ _=>Gu _ _ (by(repeat intro);exact⟨_,rfl,rfl⟩))
  (hb1:∀(T:Addr)(kV doc pm:Value)(an:Option Addr)(cS ct:Value)(us:LU),us.length=(N.take n).length - 1->∃O,bindArgs (fnOf x x (dL st) (bZ st) (aK st) (.ref T) kV doc pm an cS ct) ⟨us,[]⟩=seqItems? (.ref T)>>=O/\O (some #[.none])=pure ((N.take n).zip (us++[.none])):=by
   exact λ_ _ _ _ _ _ _=>Gu _ _ (by(repeat intro);exact⟨_,rfl,rfl⟩))
  (e:aE g (N.take n).length (N.length - (N.take n).length)=F':=by rfl):FnD P w K mg base (k+1) x F':=by
 subst e;obtain⟨h,X,G⟩:=B;obtain⟨f,T,oc,od,an,kV,doc,pm,cS,ct,lX,oT,m,lk,Kh,kp,a,lt,dt⟩:=F;have len:∀vs H Q E,Fk K (aE g (N.take n).length (N.length - (N.take n).length)) vs H Q E->vs.length=(N.take n).length:=λvs H Q E h=>by
  obtain⟨B,ds,d,b,sB,i,e,q⟩:=h;unfold aE at e;split at e
  ·rename_i hl;rw[i.length];exact hl
  ·cases e
 refine⟨f,_,N.take n,EI lk Kh S len λA outer s H vs Q E hr h=>⟨_,tY.nox (hb S.nd hr (AI hr)),?_⟩,mg_of X G a,kp,λs us KX hl=>?_,λs us KX hl=>?_⟩
 ·have M:=len vs H Q E h;obtain⟨B,ds,d,b,sB,i,e,q⟩:=h;unfold aE at e;rw[if_pos (by rw[←i.length];exact M)]at e;have s0:=qG (N:=N) sB.1 sB.2 i;rw[M]at s0;split at e
  ·rename_i d' b' eg;cases e
   exact⟨B,H,_,_,⟨B,s0⟩,eg,λv H' N' x' i' f'=>q v H' N' x' i' f'⟩
  ·rename_i ρ' eg;cases e
   exact⟨B,H,_,_,⟨B,s0⟩,eg,λσ' H' ⟨N',s'⟩=>q _ _ _ s'.ext .non (by simp)⟩
  ·cases e
 ·rw[uQ]at hl ⊢;obtain⟨O,h1,h2⟩:=U T kV doc pm an cS ct us hl;exact .of_defaults rfl (KX _ _ lt) dt h1 h2
 ·rw[uZ,length_singleton]at hl;obtain⟨O,h1,h2⟩:=hb1 T kV doc pm an cS ct us (by omega);exact .of_defaults rfl (KX _ _ lt) dt h1 h2
end
end DL
namespace DL
open PySem L2
def fg (I:Nat->Env->Prop)(ds:LD)(M:Env)(h0:I 0 M)
  (step:∀i d ρ,ds[i]? = some d->I i ρ->∃G ρ',tg d ρ=some G/\(g G=some (.nx ρ')∨g G=some (.ct ρ'))/\I (i+1) ρ'):
  ∃ρ',j0 tg g ds M=some (.nx ρ')/\I ds.length ρ':=by
 have O:∀(es:LD)(i:Nat)(ρ:Env),ds.drop i=es->i+es.length=ds.length->I i ρ->∃ρ',j0 tg g es ρ=some (.nx ρ')/\I ds.length ρ':=by
  intro es;induction es with
  |nil=>intro i ρ e hl h;refine⟨ρ,by rw[Fg],?_⟩;rw[←hl];exact h
  |cons d es U=>
   intro i ρ e hl h;have hd:ds[i]? = some d:=by
    have:(ds.drop i)[0]? = some d:=by rw[e];rfl
    rwa [List.getElem?_drop,Nat.add_zero]at this
   obtain⟨G,ρ',h1,h2,h3⟩:=step i d ρ hd h;have he:ds.drop (i+1)=es:=by rw[←List.drop_drop,e];rfl
   obtain⟨T,k1,k2⟩:=U (i+1) ρ' he (by simp at hl;omega) h3;refine⟨T,?_,k2⟩;rw[D1,h1];rcases h2 with h2|h2<;>simp only[vJ,h2]<;>exact k1
 exact O ds 0 M (by simp) (by simp) h0
def rA (n:Nat)(I:Nat->Env->Prop)(G:Env)(h0:I 0 G)
  (step:∀(i:Nat) ρ,i<n->I i ρ->∃M ρ',tg (.int (i:Int)) ρ=some M/\(g M=some (.nx ρ')∨g M=some (.ct ρ'))/\I (i+1) ρ'):
  ∃ρ',j0 tg g (jN 0 n) G=some (.nx ρ')/\I n ρ':=by
 have hl:(jN 0 n).length=n:=by simp[jN]
 obtain⟨ρ',h1,h2⟩:=fg (tg:=tg) (g:=g) I (jN 0 n) G h0 λi d ρ hd h=>by
  unfold jN at hd;rw[vA]at hd;obtain⟨k,hk,hd⟩:=oY hd;obtain⟨O,hk⟩:=vV hk;rw[length_range]at O;rw[List.getElem_range]at hk;subst hk;rw[Int.zero_add]at hd;subst hd;exact step i ρ O h
 rw[hl]at h2;exact⟨ρ',h1,h2⟩
def kO {α:Type}{xs:List α}{j:Nat}(h:j<xs.length):oR xs (j:Int)=some xs[j]:=Ib (by simp[h])
def xN {α:Type}{xs:List α}{i:Int}(h0:0<=i)(h:i.toNat<xs.length):oR xs i=some xs[i.toNat]:=by
 have:=kO h;rwa [Int.toNat_of_nonneg h0]at this
@[simp] def iW (xs:LI):bB (xs.map D.int)=true:=by
 induction xs with
 |nil=>simp
 |cons x xs G=>simp[G]
@[simp] def HD (n:Nat)(xs:LI):(xs.map D.int).all (aQ n)=true:=by
 induction xs with
 |nil=>simp
 |cons x xs G=>simpa using G
@[simp] def Ji (xs:LI):(xs.map D.int).all fX=true:=by
 induction xs with
 |nil=>simp
 |cons x xs G=>simpa using G
mutual
def no:D->D->Bool
 |.non,.non=>true
 |.bl a,.bl b=>a == b
 |.int a,.int b=>decide (a=b)
 |.str a,.str b=>decide (a=b)
 |.ty a,.ty b=>decide (a=b)
 |.tup xs,.tup ys=>rB xs ys
 |.lst xs,.lst ys=>rB xs ys
 |_,_=>false
def rB:LD->LD->Bool
 |[],[]=>true
 |x::xs,y::ys=>no x y && rB xs ys
 |_,_=>false
end
mutual
theorem Cy:∀ {x y:D},no x y=true->x=y
 |.non,.non,_=>rfl
 |.bl a,.bl b,h=>by simp[no]at h;rw[h]
 |.int a,.int b,h=>by simp[no]at h;rw[h]
 |.str a,.str b,h=>by simp[no]at h;rw[h]
 |.ty a,.ty b,h=>by simp[no]at h;rw[h]
 |.tup xs,.tup ys,h=>by rw[no]at h;rw[rC h]
 |.lst xs,.lst ys,h=>by rw[no]at h;rw[rC h]
theorem rC:∀ {xs ys:LD},rB xs ys=true->xs=ys
 |[],[],_=>rfl
 |x::xs,y::ys,h=>by
  rw[rB,vC]at h;rw[Cy h.1,rC h.2]
end
def Pa (r:OB)(d:D)(b:Bool):Bool:=match r with
 |some (e,c)=>no e d && c == b
 |none=>false
def rE (h:Pa r d b=true):r=some (d,b):=by
 unfold Pa at h;split at h
 ·rw[vC]at h;rw[Cy h.1,eq_of_beq h.2]
 ·cases h
section
variable {f:FE}{c:FT}{g g' h:FS}{ρ ρ':Env}{i:Nat}{d:D}{b:Bool}{r:Option Res}{ds:LD}
def aw (hl:ds.length=n)(e:g (ds.map (λd=>some (d,false))++List.replicate k none)=some (.rt d b)):aE g n k ds=some (d,b):=by
 unfold aE;rw[if_pos hl,e]
def we (n:b8 d=true):setE ρ i d b=ρ.set i (some (d,false)):=by unfold setE;rw[if_pos n]
def zt (n:bB ds=true):setE ρ i (.lst ds) true=ρ.set i (some (.lst ds,true)):=by
 unfold setE;rw[if_neg (by simp),if_pos ⟨rfl,by simpa using n⟩]
def KA (e:f ρ=some (d,b))(k:h (setE ρ i d b)=r):aA (aX i f) h ρ=r:=by simp[e];exact k
def rF (e:f ρ=some (d,b))(n:b8 d=true)(k:h (ρ.set i (some (d,false)))=r):aA (aX i f) h ρ=r:=KA e (by rw[we n];exact k)
def cI (e:f ρ=some (.lst ds,true))(n:bB ds=true)(k:h (ρ.set i (some (.lst ds,true)))=r):aA (aX i f) h ρ=r:=KA e (by rw[zt n];exact k)
def fj (e:g ρ=some (.nx ρ'))(k:h ρ'=r):aA g h ρ=r:=by unfold aA;rw[e];exact k
def Ry (e:g ρ=some (.rt d b)):aA g h ρ=some (.rt d b):=by unfold aA;rw[e]
def Rz (e:g ρ=some (.ct ρ')):aA g h ρ=some (.ct ρ'):=by unfold aA;rw[e]
def rG (e:c ρ=some true)(k:g ρ=r):di c g g' ρ=r:=by unfold di;rw[e];exact k
def ms (e:c ρ=some false)(k:g' ρ=r):di c g g' ρ=r:=by unfold di;rw[e];exact k
def Pc (e:c ρ=some x)(G:x=true->g ρ=r)(M:x=false->g' ρ=r):di c g g' ρ=r:=by
 cases x with
 |true=>exact rG e (G rfl)
 |false=>exact ms e (M rfl)
def bw (e:c ρ=some true)(k:g ρ=some (.rt d b)):aA (di c g g') h ρ=some (.rt d b):=Ry (rG e k)
def aM (e:c ρ=some false)(k:h ρ=r):aA (di c g aU) h ρ=r:=fj (ms e rfl) k
def ax (e:f ρ=some (d,b)):aH f ρ=some (.rt d b):=by simp[e]
def l5 (e:ρ[i]? = some (some (d,b)))(hb:Fc d=false:=by rfl):gT i ρ=some (.rt d b):=by simp only[gT,e,hb];simp
def zu (e:f ρ=some (d,b))(n:b8 d=true):aX i f ρ=some (.nx (ρ.set i (some (d,false)))):=by
 show(f ρ).map _=_;rw[e,map_some,we n]
def np (e:f ρ=some (.lst ds,true))(n:bB ds=true):aX i f ρ=some (.nx (ρ.set i (some (.lst ds,true)))):=by
 show(f ρ).map _=_;rw[e,map_some,zt n]
def rH (e:ρ[i]? = some (some (.lst ds,true)))(G:f ρ=some (d,b))(n:b8 d=true)(l:ds.length<sizeLine):xf i f ρ=some (.nx (ρ.set i (some (.lst (ds++[d]),true)))):=by
 simp[e,G,n,l]
def rJ (e:fi ρ=some ds)(k:j0 tg g ds ρ=some (.nx ρ')):oS fi tg g ρ=some (.nx ρ'):=by unfold oS;rw[e];exact k
def gZ (e:fi (jz ρ)=some ds)(k:j0 tg g ds ρ=some (.nx ρ')):ma fi tg g ρ=some (.nx ρ'):=by unfold ma;rw[e];exact k
def o9 {f:FE}{j:Nat}(e:f ρ=some (.int j,b))(hj:j<=1000):md f ρ=some (jN 0 j):=by
 unfold md;rw[e];simp only[];rw[if_pos (by omega)];simp
def dw (e:f ρ=some (.bl x,b)):aW f ρ=some x:=by unfold aW;rw[e]
def bA (e:fa ρ=some ds)(k:F ds=x):fA F fa ρ=x:=by unfold fA;rw[e,vJ];exact k
def zv {f1 g1:D->D->OB}{fa G M:FE}{x y z:D}{b1 b2 b3 b4 p q:Bool}(O:fa ρ=some (x,b1))(T:G ρ=some (y,b2))(U:M ρ=some (z,b3))(e1:f1 x y=some (.bl p,b4))(e2:p=true->g1 y z=some (.bl q,false)):ib f1 g1 fa G M ρ=some (.bl (p && q),false):=by
 unfold ib;rw[O,T,U];simp only[vJ,e1];cases p
 ·rfl
 ·exact e2 rfl
def dc {f1 f2:FE}{p q b1:Bool}(G:f1 ρ=some (.bl p,b1))(e2:p=true->f2 ρ=some (.bl q,false)):gX f1 f2 ρ=some (.bl (p && q),false):=by
 unfold gX;rw[G];cases p
 ·rfl
 ·exact e2 rfl
def iX {f1 f2:FE}{p q b1:Bool}(G:f1 ρ=some (.bl p,b1))(e2:p=false->f2 ρ=some (.bl q,false)):Aw f1 f2 ρ=some (.bl (p || q),false):=by
 unfold Aw;rw[G];cases p
 ·exact e2 rfl
 ·rfl
def aN (G:f ρ=some (d,b))(e2:fr ρ=some xs):ag f fr ρ=some (d::xs):=by
 unfold ag;rw[G,vJ,e2,vJ]
def cm (G:fa ρ=some (x,b1))(e2:fb ρ=some (y,b2))(M:op x y=z):f2 op fa fb ρ=z:=by
 unfold f2;rw[G,vJ,e2,vJ];exact M
def cJ (G:c1 ρ=some p)(e2:p=true->c2 ρ=some q):dm c1 c2 ρ=some (p && q):=by
 unfold dm;rw[G];cases p
 ·rfl
 ·exact e2 rfl
def de (G:c1 ρ=some p)(e2:p=false->c2 ρ=some q):dR c1 c2 ρ=some (p || q):=by
 unfold dR;rw[G];cases p
 ·exact e2 rfl
 ·rfl
def ca (G:c1 ρ=some p):cx c1 ρ=some (!p):=by
 unfold cx;rw[G];rfl
end
def E3 (a c:Nat):decide ([a]<[c])=decide (a<c):=by
 congr 1;rw[cons_lt_cons_iff];simp
@[simp] def Qw (a c:Nat):qI (.str ⟨#[a]⟩) (.str ⟨#[c]⟩)=some (.bl (decide (a<=c)),false):=by
 unfold qI;show some (D.bl (!decide ([c]<[a])),false)=_;rw[E3];congr 3;by_cases h:c<a
 ·rw[Au h,Pz (by omega)];rfl
 ·rw[Pz h,Au (by omega)];rfl
def dz (h:n<=100000):n<sizeLine:=lt_of_le_of_lt h (by decide)
def eB (h:n<=100000):n<=sizeLine:=le_of_lt (dz h)
def fZ {α:Type}(l:List α)(g:α->D)(p:α->Bool)(h:α->D)(e:fi ρ=some (l.map g))(hl:l.length<=100000)
  (k:∀x∈l,∃G,tg (g x) (dr nT cap ρ)=some G/\c G=some (p x)/\(p x=true->∃b,fe G=some (h x,b))):bO fi nT cap tg c fe ρ=some (.lst ((l.filter p).map h),true):=by
 have T:∀M:List α,(∀x∈M,x∈l)->gU tg c fe (dr nT cap ρ) (M.map g)=some ((M.filter p).map h):=by
  intro M;induction M with
  |nil=>intro _;simp
  |cons x M O=>
   intro hm;obtain⟨G,h1,h2,h3⟩:=k x (hm x mX);have O:=O λy hy=>hm y (mZ _ hy);rw[uY,AH,h1,vJ,h2,vJ];cases hp:p x with
   |false=>simp[hp,O]
   |true=>
    obtain⟨b,h4⟩:=h3 hp;simp[hp,O,h4]
 unfold bO;rw[e,vJ,if_pos (eB (by simpa using hl)),T l λ_ h=>h,map_some]
def rK {α:Type}(l:List α)(g:α->D)(h:α->D)(e:fi ρ=some (l.map g))(hl:l.length<=100000)
  (k:∀x∈l,∃G,tg (g x) (dr nT cap ρ)=some G/\∃b,fe G=some (h x,b)):bO fi nT cap tg gF fe ρ=some (.lst (l.map h),true):=by
 have:=fZ (c:=gF) (fe:=fe) l g (λ_=>true) h e hl λx hx=>by
  obtain⟨G,h1,h2⟩:=k x hx;exact⟨G,h1,rfl,λ_=>h2⟩
 rw[List.filter_eq_self.mpr λ_ _=>rfl]at this;exact this
@[simp] def rL {α:Type}(f:α->Bool)(l:List α):ud (l.map λx=>.bl (f x))=some (l.map f):=by
 induction l with
 |nil=>rfl
 |cons x l G=>simp[G]
def EQ (h0:0<=i)(h:i.toNat<z.cps.size)(hz:z.length<=100000):bH (.str z) (.int i)=some (.str ⟨#[z.cps.toList.getD i.toNat 0]⟩,false):=by
 have hh:i.toNat<z.cps.toList.length:=by simpa using h
 simp only[bH];rw[if_pos (eB hz),xN h0 hh];simp[List.getD,h]
def Mx (h0:0<=i)(h:i.toNat<ds.length):bH (.lst ds) (.int i)=some (ds.getD i.toNat .non,false):=by
 simp only[bH];rw[xN h0 h];simp[List.getD,h]
def EO (h0:0<=i)(h:i.toNat<ds.length):bH (.tup ds) (.int i)=some (ds.getD i.toNat .non,false):=by
 simp only[bH];rw[xN h0 h];simp[List.getD,h]
def xO {xs:LI}{i:Int}(h0:0<=i)(h:i.toNat<xs.length):bH (.lst (xs.map .int)) (.int i)=some (.int (xs.getD i.toNat 0),false):=by
 rw[Mx h0 (by simpa using h)];simp[List.getD,h]
def mod_lt {x m:Int}(hm:0<m):0<=x % m/\x % m<m:=⟨Int.emod_nonneg _ (by omega),Int.emod_lt_of_pos _ hm⟩
def Jj:eO [.lst ds]=some (.int ds.length,false):=rfl
def Cz:cY (.int i) (.int j)=some (.bl (decide (i=j)),false):=by simp
def rM (h:0<=v):HT.dS n d (some v)=min v.toNat n:=by
 show(if v<0 then (v+(n:Int)).toNat else min v.toNat n)=_;rw[if_neg (by omega)]
def bT (x y:D)(G:fa ρ=some (x,false))(e2:fb ρ=some (y,false))(M:op x y=z):f2 op fa fb ρ=z:=cm G e2 M
def dj (e:f ρ=some (.bl x,false)):aW f ρ=some x:=dw e
def cy (G:f ρ=some (d,false))(e2:fr ρ=some xs):ag f fr ρ=some (d::xs):=aN G e2
def aP (ds:LD)(e:fa ρ=some ds)(k:F ds=x):fA F fa ρ=x:=bA e k
def iz (d:D)(e:f ρ=some (d,false))(n:b8 d=true)(k:h (ρ.set i (some (d,false)))=r):aA (aX i f) h ρ=r:=rF e n k
@[simp] noncomputable abbrev XA (af:LD)(ae:Int)(t:Env):Env:=some (.tup af,false)::some (.int ae,false)::t
@[simp] noncomputable abbrev eR (ns:LI)(zs:LS)(M:Int)(G:LS)(R:LD)(a b:OB)(t:Env):Env:=some (.lst (ns.map .int),false)::some (.lst (zs.map .str),false)::some (.int M,false)::a::some (.lst (G.map .str),true)::some (.lst R,true)::b::t
end DL
namespace Lw
open PySem DL
noncomputable def lP:D:=(.int 255)
noncomputable def rN:D:=(.int 9999)
noncomputable def kP:D:=(.int 9)
noncomputable def kQ:D:=(.int 8)
noncomputable def lQ:D:=(.int 20)
noncomputable def jk:D:=(.int 8)
noncomputable def iY:D:=(.int 60)
noncomputable def zw:D:=(.tup [(.str "paper"),(.str "like"),(.str "copy")])
noncomputable def bM:List (PySem.Str×D):=[(("root" : Str),(.tup [(.str "office"),(.str "matters"),(.str "further"),(.str "rule")])),(("named" : Str),(.tup [(.str "day"),(.str "office"),(.str "person")])),(("chosen" : Str),(.tup [(.str "day"),(.str "by"),(.str "office"),(.str "person"),(.str "since")])),(("heir" : Str),(.tup [(.str "day"),(.str "by"),(.str "office"),(.str "person")])),(("death" : Str),(.tup [(.str "day"),(.str "person")])),(("lost" : Str),(.tup [(.str "day"),(.str "person")])),(("found" : Str),(.tup [(.str "day"),(.str "person")])),(("leave" : Str),(.tup [(.str "day"),(.str "by"),(.str "person"),(.str "matters"),(.str "stretch"),(.str "further")])),(("paper" : Str),(.tup [(.str "day"),(.str "by"),(.str "matters"),(.str "stretch"),(.str "whom"),(.str "pieces")])),(("like" : Str),(.tup [(.str "day"),(.str "by"),(.str "matters"),(.str "stretch"),(.str "whom"),(.str "of"),(.str "changes")])),(("copy" : Str),(.tup [(.str "day"),(.str "by"),(.str "of")])),(("call" : Str),(.tup [(.str "day"),(.str "by"),(.str "of")]))]
noncomputable def eC:D:=(.tup [(.str "by"),(.str "person"),(.str "whom")])
noncomputable def C0:D:=(.tup [(.str "open"),(.str "first"),(.str "last")])
noncomputable def i6:D:=(.tup [(.str "chosen"),(.str "heir"),(.str "leave"),(.str "paper"),(.str "like"),(.str "copy"),(.str "call")])
def rO:FS :=
  (aH (gX (fA bD (fV 0 (ag (fC (.ty "int")) aj))) (gX (LR (fA bD (fV 0 (ag (fC (.ty "bool")) aj)))) (ib qI qI (am 1) (am 0) (am 2)))))
def gg:=aE rO 3 0
def zx:FS :=
  (aH (fA gg (fV 0 (ag (fI 0) (ag (fC rN) aj)))))
def i7:=aE zx 1 0
def nq:FS :=
  (aA (di (dR (cx (aW (fA bD (fV 0 (ag (fC (.ty "tuple")) aj))))) (dR (aW (f2 xn (fA eO (fV 0 aj)) (fI 2))) (cx (aW (fA i7 (ag (bW 0 0) aj)))))) (aH (fC (.bl false))) aU)
  (aH (Aw (f2 qJ (bW 0 1) (fC .non)) (gX (fA i7 (ag (bW 0 1) aj)) (f2 yE (bW 0 0) (bW 0 1))))))
def nu:=aE nq 1 0
def nv:FS :=
  (aH (fA gg (fV 0 (ag (fI 1) (ag (fC lP) aj)))))
def nw:=aE nv 1 0
def wg:FS :=
  (aA (di (dR (cx (aW (fA bD (fV 0 (ag (fC (.ty "str")) aj))))) (cx (aW (ib qI qI (fI 1) (fA eO (fV 0 aj)) (fC kQ))))) (aH (fC (.bl false))) aU)
  (aH (fA yH (ag (bO (bP (am 0)) 1 [] (dF 0) gF (ib qI qI (fS "a") (am 0) (fS "z"))) aj))))
def l7:=aE wg 1 0
def wh:FS :=
  (aH (gX (fA bD (fV 0 (ag (fC (.ty "str")) aj))) (f2 AK (am 0) (fC C0))))
def wj:=aE wh 1 0
def rP:FS :=
  (aH (fA l7 (fV 0 aj)))
def mu:=aE rP 1 0
def pi:FS :=
  (aA (di (dR (cx (aW (fA bD (fV 0 (ag (fC (.ty "tuple")) aj))))) (cx (aW (ib qI qI (fI 1) (fA eO (fV 0 aj)) (fC jk))))) (aH (fC (.bl false))) aU)
  (aH (fA yH (ag (bO (bP (am 0)) 1 [] (dF 0) gF (fA mu (fV 0 aj))) aj))))
def pj:=aE pi 1 0
def pq:FS :=
  (aA (di (dR (cx (aW (fA bD (fV 0 (ag (fC (.ty "tuple")) aj))))) (aW (f2 xn (fA eO (fV 0 aj)) (fI 2)))) (aH (fC (.bl false))) aU)
  (aH (gX (fA gg (ag (bW 0 0) (ag (fI 0) (ag (f2 qD (fC jk) (fI 1)) aj)))) (fA mu (ag (bW 0 1) aj)))))
def px:=aE pq 1 0
def ny:FS :=
  (aA (di (dR (cx (aW (fA bD (fV 0 (ag (fC (.ty "tuple")) aj))))) (cx (aW (fA yH (ag (bO (bP (am 0)) 1 [] (dF 0) gF (fA px (fV 0 aj))) aj))))) (aH (fC (.bl false))) aU)
  (aA (aX 1 (bO (bP (am 0)) 1 [] (dF 0) gF (bW 0 0)))
  (aH (fA yH (ag (bO (F5 (am 1) (yi (am 1) (eY (fI 1)) ii)) 2 [] (F0 [0,1]) gF (f2 yE (am 0) (am 1))) aj)))))
def nA:=aE ny 1 1
def wl:FS :=
  (aA (di (dR (aW (f2 cY (am 0) (fS "day"))) (aW (f2 cY (am 0) (fS "since")))) (aH (fA i7 (fV 1 aj))) aU)
  (aA (di (dR (aW (f2 cY (am 0) (fS "office"))) (dR (aW (f2 cY (am 0) (fS "by"))) (aW (f2 cY (am 0) (fS "person"))))) (aH (fA l7 (fV 1 aj))) aU)
  (aA (di (aW (f2 cY (am 0) (fS "whom"))) (aH (Aw (f2 qJ (am 1) (fC .non)) (fA l7 (fV 1 aj)))) aU)
  (aA (di (aW (f2 cY (am 0) (fS "matters"))) (aH (fA nw (fV 1 aj))) aU)
  (aA (di (aW (f2 cY (am 0) (fS "stretch"))) (aH (fA nu (fV 1 aj))) aU)
  (aA (di (aW (f2 cY (am 0) (fS "further"))) (aH (fA gg (fV 1 (ag (fI 0) (ag (fC kP) aj))))) aU)
  (aA (di (aW (f2 cY (am 0) (fS "rule"))) (aH (fA wj (fV 1 aj))) aU)
  (aA (di (aW (f2 cY (am 0) (fS "of"))) (aH (fA gg (fV 1 (ag (fI 0) (ag (f2 qD (fC iY) (fI 1)) aj))))) aU)
  (aA (di (aW (f2 cY (am 0) (fS "pieces"))) (aH (fA pj (fV 1 aj))) aU)
  (aH (fA nA (fV 1 aj))))))))))))
def hW:=aE wl 2 0
def wm:FS :=
  (aA (di (dR (cx (aW (fA bD (fV 0 (ag (fC (.ty "tuple")) aj))))) (dR (aW (f2 cY (fA eO (fV 0 aj)) (fI 0))) (cx (aW (fA bD (ag (bW 0 0) (ag (fC (.ty "str")) aj))))))) (aH (fC (.bl false))) aU)
  (aA (di (dR (aW (f1 (qO bM) (bW 0 0))) (aW (f2 xn (fA eO (fV 0 aj)) (f2 eW (fI 1) (fA eO (ag (f1 (mi bM) (bW 0 0)) aj)))))) (aH (fC (.bl false))) aU)
  (aH (fA yH (ag (bO (F5 (f1 (mi bM) (bW 0 0)) (yi (am 0) (eY (fI 1)) ii)) 2 [] (F0 [0,1]) gF (fA hW (fV 0 (fV 1 aj)))) aj)))))
def oA:=aE wm 1 0
def wn:FS :=
  (aH (f2 bH (bW 0 1) (fI 0)))
def aD:=aE wn 1 0
def wo:FS :=
  (aH (f2 bH (bW 0 1) (f2 eW (fI 1) (f2 (mq bM) (fA aD (fV 0 aj)) (am 1)))))
def av:=aE wo 2 0
def zy:FS :=
  (aA (di (aW (f2 cY (fA aD (fV 0 aj)) (fS "root"))) (aH (fC .non)) aU)
  (aH (fA av (fV 0 (ag (fS "day") aj)))))
def aR:=aE zy 1 0
def pz:FS :=
  (aA (aX 1 (fA aR (fV 0 aj)))
  (aA (di (aW (f2 qJ (am 1) (fC .non))) (aH (fC (.bl true))) aU)
  (aA (di (dm (aW (f2 cY (fA aD (fV 0 aj)) (fS "chosen"))) (aW (f2 yE (fA av (fV 0 (ag (fS "since") aj))) (am 1)))) (aH (fC (.bl false))) aU)
  (aH (f2 qI (am 1) (bW 0 0))))))
def kR:=aE pz 1 1
def z4:FS :=
  (aA (di (dR (cx (aW (fA bD (fV 0 (ag (fC (.ty "tuple")) aj))))) (aW (f2 xn (fA eO (fV 0 aj)) (fI 2)))) (aH (fC (.bl false))) aU)
  (aH (gX (fA i7 (ag (bW 0 0) aj)) (gX (fA oA (ag (bW 0 1) aj)) (fA kR (fV 0 aj))))))
def rQ:=aE z4 1 0
def kT:FS :=
  (aH (bO (bP (am 0)) 1 [] (dF 0) (aW (f2 cY (fA aD (fV 0 aj)) (fS "root"))) (fA av (fV 0 (ag (fS "office") aj)))))
def iA:=aE kT 1 0
def jB:FS :=
  (aH (gX (f2 cY (fA aD (fV 1 aj)) (fS "root")) (f2 AK (fA av (fV 1 (ag (fS "office") aj))) (fA iA (fV 0 aj)))))
def gh:=aE jB 2 0
def rR:FS :=
  (aH (To (f1 (mi bM) (fA aD (fV 0 aj))) (yi (bW 0 1) (eY (fI 1)) ii)))
def gm:=aE rR 1 0
def p0:FS :=
  (aA (aX 1 (bO (bP (fA gm (fV 0 aj))) 2 [] (F0 [0,1]) (dm (aW (f2 AK (am 0) (fC eC))) (aW (f2 gP (am 1) (fC .non)))) (am 1)))
  (aH (f1 fN (am 1))))
def gI:=aE p0 1 1
def kj:FS :=
  (F7 1 (fA gI (fV 2 aj)))
def kU:FS :=
  (aA (aX 1 (fA bS aj))
  (aA (ma (bP (am 0)) (dF 2) kj)
  (aH (f1 mV (am 1)))))
def iB:=aE kU 1 2
def nB:FS :=
  (aA (di (dR (aW (f2 Nv (am 1) (fC iY))) (cx (aW (fA rQ (ag (f2 bH (am 0) (am 1)) aj))))) (aH (fC (.bl true))) aU)
  (aH (Aw (fA gh (ag (yi (am 0) ii (eY (am 1))) (ag (f2 bH (am 0) (am 1)) aj))) (f2 Hz (fA iB (ag (yi (am 0) ii (eY (f2 eW (am 1) (fI 1)))) aj)) (fC lQ)))))
def jT:=aE nB 2 0
def kW:FS :=
  (di (aW (fA jT (fV 1 (fV 2 aj)))) AS aU)
def lR:FS :=
  (aA (di (cx (aW (fA xI (fV 0 (ag (fA bi (ag (fC (.ty "list")) (ag (fC (.ty "tuple")) aj))) aj))))) AS aU)
  (aA (aX 1 (fA io (fV 0 aj)))
  (aA (oS (md (fA eO (fV 1 aj))) (dF 2) kW)
  (gT 1))))
def jl:=aE lR 1 2
def C1:FS :=
  (aH (bO (F9 (am 0)) 2 [1] (F0 [0,1]) (aW (f2 qI (bW 1 0) (am 2))) (am 0)))
def cE:=aE C1 2 0
def G0:FS :=
  (aH (fA bi (ag (fA aR (ag (f2 bH (am 0) (am 1)) aj)) (fV 1 aj))))
def fE:=aE G0 2 0
def rS:FS :=
  (aA (aX 2 (bO (bP (fA cE (fV 0 (fV 1 aj)))) 1 [0] (dF 0) (aW (f2 gP (fA aR (ag (f2 bH (am 1) (am 0)) aj)) (fC .non))) (am 0)))
  (aH (rf (am 2) (rd [0] (fA fE (fV 1 (fV 0 aj)))))))
def eE:=aE rS 2 1
def p4:FS :=
  (aH (fA bi (ag (bW 0 0) (ag (bW 0 2) (ag (bW 0 4) aj)))))
def gJ:=aE p4 1 0
def C2:FS :=
  (aA (aX 2 (bO (bP (fA cE (fV 0 (fV 1 aj)))) 1 [0] (dF 0) gF (f2 bH (am 1) (am 0))))
  (aH (fA jS (ag (bO (bP (am 2)) 1 [] (dF 0) (aW (f2 cY (fA aD (fV 0 aj)) (fS "root"))) (fA bi (ag (fA av (fV 0 (ag (fS "office") aj))) (fV 0 aj)))) aj))))
def gE:=aE C2 2 1
def rT:FS :=
  (aH (gX (ib qI yE (fI 0) (am 2) (fA eO (fV 0 aj))) (f2 qI (f2 bH (f2 bH (am 0) (am 2)) (fI 0)) (am 1))))
def cC:=aE rT 3 0
def C3:FS :=
  (aH (gX (f2 AK (fA aD (fV 0 aj)) (am 1)) (gX (f2 cY (fA av (fV 0 (ag (fS "person") aj))) (am 2)) (f2 qI (fA aR (fV 0 aj)) (am 3)))))
def ql:=aE C3 4 0
def wt:FS :=
  (aH (bO (bP (fA cE (fV 0 (fV 1 aj)))) 1 [2,3,4,0] (dF 0) (aW (fA ql (ag (f2 bH (am 4) (am 0)) (fV 1 (fV 2 (fV 3 aj)))))) (am 0)))
def hZ:=aE wt 5 0
def C4:FS :=
  (aH (f2 cY (fA eO (ag (fA hZ (fV 0 (fV 1 (ag (fA bi (ag (fS "death") aj)) (fV 2 (fV 3 aj)))))) aj)) (fI 0)))
def nD:=aE C4 4 0
def rV:FS :=
  (aA (aX 4 (fA hZ (fV 0 (fV 1 (ag (fA bi (ag (fS "lost") (ag (fS "found") aj))) (fV 2 (fV 3 aj)))))))
  (aA (di (aW (f2 cY (fA eO (fV 4 aj)) (fI 0))) (aH (fC (.bl true))) aU)
  (aH (f2 cY (fA aD (ag (f2 bH (am 0) (vw (am 4) (rd [0] (fA fE (fV 1 (fV 0 aj)))))) aj)) (fS "found")))))
def mv:=aE rV 4 1
def rW:FS :=
  (aA (di (dR (cx (aW (fA cC (fV 0 (fV 1 (fV 2 aj)))))) (aW (f2 dZ (fA aD (ag (f2 bH (am 0) (am 2)) aj)) (fC i6)))) (aH (fC (.bl false))) aU)
  (aA (aX 3 (fA av (ag (f2 bH (am 0) (am 2)) (ag (fS "by") aj))))
  (aA (aX 4 (fA aR (ag (f2 bH (am 0) (am 2)) aj)))
  (aH (gX (fA nD (fV 0 (fV 1 (fV 3 (fV 4 aj))))) (fA mv (fV 0 (fV 1 (fV 3 (fV 4 aj))))))))))
def gn:=aE rW 3 2
def wu:FS :=
  (aH (gX (f2 qI (bW 1 0) (am 0)) (Aw (f2 qJ (bW 1 1) (fC .non)) (f2 yE (am 0) (bW 1 1)))))
def gp:=aE wu 2 0
def rX:FS :=
  (aH (fA gp (fV 1 (ag (fA bi (ag (bW 0 2) (ag (bW 0 3) aj))) aj))))
def cN:=aE rX 2 0
def rY:FS :=
  (aH (fA bi (ag (bW 0 2) (ag (bW 0 4) aj))))
def dA:=aE rY 1 0
def rZ:FS :=
  (aA (di (aW (f2 cY (am 1) (fS "last"))) (aH (f2 bH (vw (am 0) (uj dA)) (fI 1))) aU)
  (aH (f2 bH (vx (am 0) (uj dA)) (fI 1))))
def mw:=aE rZ 2 0
def p5:FS :=
  (aA (aX 3 (bO (bP (am 0)) 1 [2,1] (dF 0) (dm (aW (f2 cY (bW 0 0) (fA av (fV 2 (ag (fS "office") aj))))) (aW (fA cN (fV 0 (fV 1 aj))))) (am 0)))
  (aA (aX 4 (f1 fN (bO (bP (am 3)) 1 [] (dF 0) gF (bW 0 1))))
  (aA (di (aW (f2 cY (fA eO (fV 4 aj)) (fI 0))) (aH (fA bi (ag (fS "none") aj))) aU)
  (aA (di (dm (aW (f2 Hz (fA eO (fV 4 aj)) (fI 1))) (aW (f2 cY (fA av (fV 1 (ag (fS "rule") aj))) (fS "open")))) (aH (fA bi (ag (fS "parted") (fV 4 aj)))) aU)
  (aA (aX 5 (fA mw (fV 3 (ag (fA av (fV 1 (ag (fS "rule") aj))) aj))))
  (aA (aX 6 (vx (bO (bP (am 3)) 1 [5] (dF 0) (aW (f2 cY (bW 0 1) (am 1))) (am 0)) (uj dA)))
  (aH (fA bi (ag (fS "one") (fV 5 (ag (bW 6 4) aj)))))))))))
def eF:=aE p5 3 4
def nE:FS :=
  (aH (f2 cY (yi (fA eF (fV 0 (fV 1 (fV 3 aj)))) ii (eY (fI 2))) (fA bi (ag (fS "one") (fV 2 aj)))))
def cK:=aE nE 4 0
def jC:FS :=
  (aA (aX 3 (f2 bH (am 0) (am 2)))
  (aA (aX 4 (fA hZ (fV 0 (fV 1 (ag (fA bi (ag (fS "death") aj)) (ag (fA av (fV 3 (ag (fS "person") aj))) (ag (fA aR (fV 3 aj)) aj)))))))
  (aH (f2 cY (vx (am 4) (rd [0] (fA fE (fV 1 (fV 0 aj))))) (am 2)))))
def gs:=aE jC 3 2
def z5:FS :=
  (aA (aX 4 (f2 bH (am 0) (am 3)))
  (aA (di (aW (f2 cY (fA aD (fV 4 aj)) (fS "death"))) (aH (fA gs (fV 0 (fV 1 (fV 3 aj))))) aU)
  (aA (di (aW (f2 dZ (fA aD (fV 4 aj)) (fA bi (ag (fS "named") (ag (fS "chosen") (ag (fS "heir") aj)))))) (aH (fC (.bl false))) aU)
  (aA (aX 5 (f2 FZ (fA gE (fV 0 (fV 1 aj))) (fA av (fV 4 (ag (fS "office") aj)))))
  (aA (di (aW (f2 qJ (am 5) (fC .non))) (aH (fC (.bl false))) aU)
  (aA (di (aW (f2 cY (fA aD (fV 4 aj)) (fS "named"))) (aH (fC (.bl true))) aU)
  (aH (gX (fA gn (fV 0 (fV 1 (fV 3 aj)))) (fA cK (fV 2 (fV 5 (ag (fA av (fV 4 (ag (fS "by") aj))) (ag (fA aR (fV 4 aj)) aj)))))))))))))
def nF:=aE z5 4 2
def p6:FS :=
  (aH (fA bi (ag (fA av (fV 0 (ag (fS "office") aj))) (ag (fA av (fV 0 (ag (fS "person") aj))) (fV 1 (ag (fC .non) (fV 2 aj)))))))
def gK:=aE p6 3 0
def sd:FS :=
  (di (dR (aW (f2 dZ (bW 5 0) (am 1))) (dR (aW (f2 xn (bW 5 1) (am 2))) (cx (dR (aW (fA cN (fV 5 (fV 3 aj)))) (aW (f2 Hz (bW 5 2) (am 3))))))) (xf 4 (am 5)) (di (aW (f2 yE (bW 5 2) (am 3))) (xf 4 (fA bi (ag (bW 5 0) (fV 2 (ag (bW 5 2) (fV 3 (ag (bW 5 4) aj))))))) aU))
def C5:FS :=
  (aA (aX 4 (fA bS aj))
  (aA (ma (bP (am 0)) (dF 5) sd)
  (gT 4)))
def qm:=aE C5 4 2
def kX:FS :=
  (aA (aX 3 (fA av (fV 1 (ag (fS "since") aj))))
  (aA (aX 4 (fA qm (fV 0 (ag (fA bS (ag (fA av (fV 1 (ag (fS "office") aj))) aj)) (ag (fA av (fV 1 (ag (fS "by") aj))) (fV 3 aj))))))
  (aH (f2 eW (am 4) (fA bS (ag (fA gK (fV 1 (fV 3 (fV 2 aj)))) aj))))))
def iC:=aE kX 3 2
def h8:FS :=
  (aA (aX 9 (Gn (am 3) (fV 8 (fV 5 aj))))
  (di (dm (aW (f2 gP (am 9) (fC .non))) (aW (fA nD (fV 0 (fV 1 (fV 9 (fV 6 aj))))))) (xf 7 (fA bi (fV 8 (fV 9 (fV 6 (ag (fC .non) (fV 4 aj))))))) aU))
def p7:FS :=
  (aA (aX 5 (fA av (ag (f2 bH (am 0) (am 4)) (ag (fS "person") aj))))
  (aA (aX 6 (fA aR (ag (f2 bH (am 0) (am 4)) aj)))
  (aA (aX 7 (fA bS aj))
  (aA (K4 [5,6] (ma (bP (f1 fN (bO (bP (am 2)) 1 [5,6] (dF 0) (dm (aW (f2 cY (bW 0 1) (am 1))) (aW (fA cN (fV 0 (fV 2 aj))))) (bW 0 0)))) (dF 8) h8))
  (gT 7)))))
def kY:=aE p7 5 5
def lS:FS :=
  (aA (aX 5 (bO (bP (am 2)) 1 [] (dF 0) gF (bW 0 0)))
  (aA (aX 6 (fA qm (fV 2 (fV 5 (ag (fA av (ag (f2 bH (am 0) (am 4)) (ag (fS "person") aj))) (ag (fA aR (ag (f2 bH (am 0) (am 4)) aj)) aj))))))
  (aH (f2 eW (am 6) (fA kY (fV 0 (fV 1 (fV 2 (fV 3 (fV 4 aj))))))))))
def jm:=aE lS 5 2
def l8:FS :=
  (aA (aX 5 (f2 bH (am 0) (am 4)))
  (aA (di (cx (aW (fA nF (fV 0 (fV 1 (fV 2 (fV 4 aj))))))) K5 aU)
  (di (aW (f2 cY (fA aD (fV 5 aj)) (fS "named"))) (aX 2 (f2 eW (am 2) (fA bS (ag (fA gK (fV 5 (ag (fA aR (fV 5 aj)) (fV 4 aj)))) aj)))) (di (aW (f2 cY (fA aD (fV 5 aj)) (fS "chosen"))) (aX 2 (fA iC (fV 2 (fV 5 (fV 4 aj))))) (di (aW (f2 cY (fA aD (fV 5 aj)) (fS "heir"))) (wa 3 (ag (fA av (fV 5 (ag (fS "office") aj))) (ag (fA av (fV 5 (ag (fS "by") aj))) aj)) (fA av (fV 5 (ag (fS "person") aj)))) (aX 2 (fA jm (fV 0 (fV 1 (fV 2 (fV 3 (fV 4 aj))))))))))))
def z6:FS :=
  (aA (aX 2 (fA bS aj))
  (aA (Gb 3)
  (aA (ma (bP (fA eE (fV 0 (fV 1 aj)))) (dF 4) l8)
  (aH (rf (am 2) (uj gJ))))))
def se:=aE z6 2 4
def sf:FS :=
  (aH (gX (fA cC (fV 0 (fV 1 (fV 2 aj)))) (f2 AK (fA aD (ag (f2 bH (am 0) (am 2)) aj)) (fC zw))))
def dB:=aE sf 3 0
def sg:FS :=
  (aH (gX (fA cC (fV 0 (fV 1 (fV 2 aj)))) (f2 cY (fA aD (ag (f2 bH (am 0) (am 2)) aj)) (fS "leave"))))
def gt:=aE sg 3 0
def si:FS :=
  (aH (Aw (fA gt (fV 0 (fV 1 (fV 2 aj)))) (fA dB (fV 0 (fV 1 (fV 2 aj))))))
def eG:=aE si 3 0
def sj:FS :=
  (aH (f2 cY (f2 O6 (am 0) (am 1)) (am 1)))
def iD:=aE sj 2 0
def p8:FS :=
  (aA (di (cx (aW (fA iD (ag (fA av (fV 1 (ag (fS "matters") aj))) (ag (fA av (fV 0 (ag (fS "matters") aj))) aj))))) (aH (fS "matters")) aU)
  (aA (di (dm (aW (f2 cY (fA aD (fV 0 aj)) (fS "leave"))) (aW (f2 Nv (fA av (fV 0 (ag (fS "further") aj))) (fA av (fV 1 (ag (fS "further") aj)))))) (aH (fS "further")) aU)
  (aH (fC .non))))
def iZ:=aE p8 2 0
def nG:FS :=
  (aA (di (cx (aW (fA cK (fV 0 (fV 2 (ag (fA av (fV 1 (ag (fS "by") aj))) (ag (fA aR (fV 1 aj)) aj))))))) (aH (fS "holder")) aU)
  (aH (fA iZ (fV 1 (fV 2 aj)))))
def hG:=aE nG 3 0
def kZ:FS :=
  (aA (aX 4 (f2 bH (am 0) (am 3)))
  (aA (aX 5 (bO (rz (fA gE (fV 0 (fV 1 aj)))) 1 [2,4] (dF 0) (aW (f2 qJ (fA hG (fV 1 (fV 2 (fV 0 aj)))) (fC .non))) (am 0)))
  (aH (bO (bP (am 5)) 1 [2,4] (dF 0) gF (fA bi (ag (fS "office") (ag (fA av (fV 0 (ag (fS "office") aj))) (ag (f2 bH (fA eF (fV 1 (fV 0 (ag (fA aR (fV 2 aj)) aj)))) (fI 2)) aj))))))))
def iE:=aE kZ 4 2
def lU:FS :=
  (aA (di (aW (f2 qJ (am 1) (fC .non))) (aH (fC (.bl true))) aU)
  (aH (gX (f2 gP (am 0) (fC .non)) (f2 qI (am 0) (am 1)))))
def jn:=aE lU 2 0
def p9:FS :=
  (aH (gX (f2 qI (bW 1 0) (bW 0 0)) (fA jn (ag (bW 0 1) (ag (bW 1 1) aj)))))
def ja:=aE p9 2 0
def sk:FS :=
  (aH (f2 Lf (fA fE (fV 0 (fV 1 aj))) (fA fE (fV 0 (fV 2 aj)))))
def gu:=aE sk 3 0
def pA:FS :=
  (aA (aX 3 (f2 bH (am 0) (am 1)))
  (aA (aX 4 (fA av (ag (f2 bH (am 0) (am 2)) (ag (fS "stretch") aj))))
  (aA (di (cx (aW (fA gu (fV 0 (fV 2 (fV 1 aj)))))) (aH (fS "order")) aU)
  (aA (di (dR (cx (aW (fA gp (ag (fA aR (fV 3 aj)) (fV 4 aj))))) (cx (aW (fA ja (ag (fA av (fV 3 (ag (fS "stretch") aj))) (fV 4 aj)))))) (aH (fS "days")) aU)
  (aH (fA iZ (fV 3 (ag (f2 bH (am 0) (am 2)) aj))))))))
def jb:=aE pA 3 2
def pB:FS :=
  (aA (aX 3 (bO (bP (fA cE (fV 0 (fV 1 aj)))) 1 [0,1] (dF 0) (aW (fA gt (fV 1 (fV 2 (fV 0 aj))))) (am 0)))
  (aH (bO (bP (am 3)) 1 [2,0] (dF 0) (aW (f2 cY (fA av (ag (f2 bH (am 2) (am 0)) (ag (fS "person") aj))) (am 1))) (am 0))))
def la:=aE pB 3 1
def lV:FS :=
  (aA (aX 3 (fA la (fV 0 (fV 1 (ag (fA av (ag (f2 bH (am 0) (am 2)) (ag (fS "by") aj))) aj)))))
  (aH (bO (bP (am 3)) 1 [0,2] (dF 0) (aW (f2 qJ (fA jb (fV 1 (fV 2 (fV 0 aj)))) (fC .non))) (fA bi (ag (fS "leave") (fV 0 aj))))))
def jo:=aE lV 3 1
def nH:FS :=
  (aA (aX 3 (fA av (ag (f2 bH (am 0) (am 2)) (ag (fS "of") aj))))
  (aA (di (dm (aW (fA dB (fV 0 (fV 1 (fV 3 aj))))) (aW (fA gu (fV 0 (fV 3 (fV 2 aj)))))) (aH (fA bS (ag (fA bi (ag (fS "copy") (fV 3 aj))) aj))) aU)
  (aH (fA bS aj))))
def jU:=aE nH 3 1
def sn:FS :=
  (aA (di (cx (aW (fA eG (fV 0 (fV 1 (fV 3 aj)))))) (aH (fA bS aj)) aU)
  (aA (di (aW (f2 cY (fA aD (ag (f2 bH (am 0) (am 3)) aj)) (fS "copy"))) (aH (fA jU (fV 0 (fV 1 (fV 3 aj))))) aU)
  (aA (aX 4 (f2 eW (fA iE (fV 0 (fV 1 (fV 2 (fV 3 aj))))) (fA jo (fV 0 (fV 1 (fV 3 aj))))))
  (aH (Bk (am 4) (rd [] (fA bi (ag (f2 bH (am 0) (f1 D4 (fI 1))) (fV 0 aj)))))))))
def fF:=aE sn 4 1
def sq:FS :=
  (aA (aX 5 (f2 bH (am 0) (am 4)))
  (aA (aX 6 (fA av (ag (f2 bH (am 0) (am 3)) (ag (fS "by") aj))))
  (aA (di (aW (f2 cY (am 6) (fA av (fV 5 (ag (fS "by") aj))))) (aH (fC (.bl true))) aU)
  (aA (di (aW (f2 cY (fA aD (fV 5 aj)) (fS "copy"))) (aH (fC (.bl false))) aU)
  (aA (aX 7 (bO (rz (fA gE (fV 0 (fV 1 aj)))) 1 [5] (dF 0) (aW (fA iD (ag (fA av (fV 0 (ag (fS "matters") aj))) (ag (fA av (fV 1 (ag (fS "matters") aj))) aj)))) (am 0)))
  (aH (fA Fx (ag (bO (bP (am 7)) 1 [2,6,0,3] (dF 0) gF (fA cK (fV 1 (fV 0 (fV 2 (ag (fA aR (ag (f2 bH (am 3) (am 4)) aj)) aj)))))) aj))))))))
def mz:=aE sq 5 3
def sr:FS :=
  (aA (aX 6 (f2 bH (am 0) (am 3)))
  (aA (di (dR (aW (f2 xn (fA aD (fV 6 aj)) (fS "call"))) (dR (aW (f2 xn (fA av (fV 6 (ag (fS "of") aj))) (am 4))) (aW (f2 Hz (fA aR (fV 6 aj)) (am 5))))) (aH (fC (.bl false))) aU)
  (aH (gX (fA gn (fV 0 (fV 1 (fV 3 aj)))) (fA mz (fV 0 (fV 1 (fV 2 (fV 3 (fV 4 aj))))))))))
def jV:=aE sr 6 1
def su:FS :=
  (aA (di (cx (aW (fA eG (fV 0 (fV 1 (fV 3 aj)))))) (aH (fA bS aj)) aU)
  (aH (bO (bP (fA cE (fV 0 (fV 1 aj)))) 1 [0,1,2,3,4] (dF 0) (aW (fA jV (fV 1 (fV 2 (fV 3 (fV 0 (fV 4 (fV 5 aj)))))))) (am 0))))
def m8:=aE su 5 0
def z7:FS :=
  (aA (di (dR (cx (aW (fA gn (fV 0 (fV 1 (fV 3 aj)))))) (aW (f2 Hz (fA aR (ag (f2 bH (am 0) (am 3)) aj)) (am 4)))) (aH (fC (.bl false))) aU)
  (aH (f2 cY (fA eO (ag (fA m8 (fV 0 (fV 1 (fV 2 (fV 3 (fV 4 aj)))))) aj)) (fI 0))))
def nI:=aE z7 5 0
def z8:FS :=
  (di (dm (aW (fA eG (fV 0 (fV 1 (fV 5 aj))))) (aW (fA nI (fV 0 (fV 1 (fV 3 (fV 5 (fV 2 aj)))))))) (r6 4 (am 5) (fA fF (fV 0 (fV 1 (fV 3 (fV 5 aj)))))) aU)
def C6:FS :=
  (aA (yy 3 (fA se (fV 0 (fV 1 aj))))
  (aA (Cr 4)
  (aA (ma (bP (fA eE (fV 0 (fV 1 aj)))) (dF 5) z8)
  (gT 4))))
def xP:=aE C6 3 3
def C7:FS :=
  (aH (Aw (f2 cY (bW 0 0) (fS "office")) (f2 Qv (bW 0 1) (am 1))))
def nJ:=aE C7 2 0
def z9:FS :=
  (di (aW (fA Fx (ag (bO (bP (am 3)) 1 [1] (dF 0) gF (fA nJ (fV 0 (fV 1 aj)))) aj))) (zn 1 (am 2) (fC (.bl true))) aU)
def C8:FS :=
  (aA (Cr 1)
  (aA (ma (Cv (am 0)) (F0 [2,3]) z9)
  (gT 1)))
def xQ:=aE C8 1 3
def sv:FS :=
  (aH (fA jA (ag (fA xQ (ag (fA xP (fV 0 (fV 1 (fV 2 aj)))) aj)) aj)))
def gy:=aE sv 3 0
def gQ:FS :=
  (aX 2 (f2 bH (am 0) (fA av (fV 2 (ag (fS "of") aj)))))
def lb:FS :=
  (aA (aX 2 (f2 bH (am 0) (am 1)))
  (aA (fz (aW (f2 cY (fA aD (fV 2 aj)) (fS "copy"))) gQ 1000)
  (gT 2)))
def df:=aE lb 2 1
def wv:FS :=
  (aA (aX 3 (bO (bP (fA gy (fV 0 (fV 1 (fV 2 aj))))) 1 [0,1] (dF 0) (aW (fA dB (fV 1 (fV 2 (fV 0 aj))))) (am 0)))
  (aH (bO (bP (am 3)) 1 [2,0] (dF 0) (aW (fA gp (fV 1 (ag (fA av (ag (fA df (fV 2 (fV 0 aj))) (ag (fS "stretch") aj))) aj)))) (am 0))))
def lA:=aE wv 3 1
def ww:FS :=
  (aH (fA av (ag (fA df (fV 0 (fV 1 aj))) (ag (fS "whom") aj))))
def lB:=aE ww 2 0
def C9:FS :=
  (aA (di (aW (f2 dZ (am 3) (fA lA (fV 0 (fV 1 (fV 2 aj)))))) (aH (fC (.bl false))) aU)
  (aH (Aw (f2 qJ (am 4) (fC .non)) (f2 AK (fA lB (fV 0 (fV 3 aj))) (fA bi (ag (fC .non) (fV 4 aj)))))))
def lC:=aE C9 5 0
def pC:FS :=
  (aA (di (aW (f2 yE (am 1) (fA eO (fV 0 aj)))) (aH (f2 bH (am 0) (am 1))) aU)
  (aH (fI 0)))
def bX:=aE pC 2 0
def pD:FS :=
  (aA (aX 4 (f2 bY (f2 eW (f2 eW (f2 eW (f2 AJ (am 4) (am 4)) (f2 AJ (fI 48271) (am 4))) (am 5)) (am 1)) (fI 2147483647)))
  (xf 3 (am 4)))
def sw:FS :=
  (aA (aX 3 (fA bS aj))
  (aA (aX 4 (f2 bY (f2 eW (f2 eW (f2 AJ (f2 bY (am 0) (fI 2147483647)) (fI 48271)) (f2 AJ (f2 AJ (am 1) (am 1)) (fI 69621))) (fI 11)) (fI 2147483647)))
  (aA (oS (md (am 2)) (dF 5) pD)
  (gT 3))))
def fG:=aE sw 3 3
def pE:FS :=
  (aA (aX 1 (f2 bY (am 0) (fI 5)))
  (aA (di (aW (f2 cY (f2 bY (f2 mO (am 0) (fI 5)) (fI 2)) (fI 0))) (aH (fA bi (fV 1 (ag (fC .non) aj)))) aU)
  (aH (fA bi (fV 1 (ag (f2 eW (f2 eW (am 1) (fI 1)) (f2 bY (f2 mO (am 0) (fI 10)) (fI 9))) aj))))))
def jc:=aE pE 1 1
def zF:FS :=
  (aA (aX 3 (fA bS (ag (fS "ann") (ag (fS "bob") (ag (fS "cid") (ag (fS "dan") aj))))))
  (aA (aX 4 (f2 bH (am 3) (f2 bY (f2 bY (bW 0 2) (fI 5)) (fI 4))))
  (aA (aX 5 (f2 bH (am 3) (f2 bY (bW 0 3) (fI 4))))
  (aA (aX 6 (f2 bH (fA bS (ag (fI 1) (ag (fI 3) (ag (fI 7) (ag (fI 2) (ag (fI 1) (ag (fI 1) (ag (fI 3) aj)))))))) (f2 bY (bW 0 4) (fI 7))))
  (aA (aX 7 (fA jc (ag (bW 0 5) aj)))
  (aA (aX 8 (fA Fq (ag (fI 0) (ag (f2 qD (f2 qD (am 1) (fI 1)) (f2 bY (bW 0 6) (fI 4))) aj))))
  (aA (aX 9 (f2 bH (fA bS (ag (fC .non) (fV 5 aj))) (f2 bY (bW 0 7) (fI 2))))
  (aA (aX 10 (f2 bY (bW 0 1) (fI 12)))
  (aA (di (aW (f2 yE (am 10) (fI 3))) (aH (fA bi (ag (fS "leave") (fV 2 (fV 4 (fV 5 (fV 6 (fV 7 (ag (f2 bY (bW 0 7) (fI 4)) aj))))))))) aU)
  (aA (di (aW (f2 yE (am 10) (fI 7))) (aH (fA bi (ag (fS "paper") (fV 2 (fV 4 (ag (fI 1) (fV 7 (fV 9 (ag (yi (fA bi (ag (fS "aa") (ag (fS "b") aj))) ii (eY (f2 eW (fI 1) (f2 bY (f2 mO (bW 0 7) (fI 2)) (fI 2))))) aj))))))))) aU)
  (aA (di (aW (f2 cY (am 10) (fI 7))) (aH (fA bi (ag (fS "like") (fV 2 (fV 4 (ag (fI 1) (fV 7 (fV 9 (fV 8 (ag (fA bi (ag (fA bi (ag (fI 0) (ag (fS "c") aj))) aj)) aj)))))))))) aU)
  (aA (di (aW (f2 yE (am 10) (fI 10))) (aH (fA bi (ag (fS "copy") (fV 2 (fV 4 (fV 8 aj)))))) aU)
  (aA (di (aW (f2 cY (am 10) (fI 10))) (aH (fA bi (ag (fS "call") (fV 2 (fV 4 (fV 8 aj)))))) aU)
  (aH (fA bi (ag (f2 bH (fA bS (ag (fS "lost") (ag (fS "found") (ag (fS "death") aj)))) (f2 bY (bW 0 7) (fI 3))) (fV 2 (fV 5 aj))))))))))))))))))
def sx:=aE zF 3 8
def lD:FS :=
  (aA (aX 5 (fA fG (fV 4 (ag (fA eO (fV 2 aj)) (ag (fI 9) aj)))))
  (aA (aX 6 (f2 bY (bW 5 0) (fI 10)))
  (aA (aX 7 (f2 eW (am 6) (f2 bH (fA bS (ag (fI 0) (ag (fI 0) (ag (fI 0) (ag (f2 bY (f2 mO (bW 5 0) (fI 10)) (fI 5)) aj))))) (f2 bY (f2 mO (bW 5 0) (fI 50)) (fI 4)))))
  (xf 2 (fA bi (fV 7 (ag (fA sx (fV 5 (ag (fA eO (fV 2 aj)) (fV 6 aj)))) aj)))))))
def zG:FS :=
  (aA (aX 1 (fA bX (fV 0 (ag (fI 0) aj))))
  (aA (aX 2 (fA bS (ag (fA bi (ag (fI 0) (ag (fA bi (ag (fS "root") (ag (fS "king") (ag (fI 7) (ag (fI 3) (ag (fS "open") aj)))))) aj))) (ag (fA bi (ag (fI 0) (ag (fA bi (ag (fS "named") (ag (fI 0) (ag (fS "king") (ag (fS "ann") aj))))) aj))) aj))))
  (aA (di (aW (f2 cY (f2 bY (am 1) (fI 3)) (fI 0))) (aX 2 (f2 eW (am 2) (fA bS (ag (fA bi (ag (fI 0) (ag (fA bi (ag (fS "root") (ag (fS "abbot") (ag (fI 3) (ag (fI 1) (ag (fS "first") aj)))))) aj))) (ag (fA bi (ag (fI 1) (ag (fA bi (ag (fS "named") (ag (fI 1) (ag (fS "abbot") (ag (fS "bob") aj))))) aj))) aj))))) aU)
  (aA (aX 3 (yi (am 0) (eY (fI 2)) (eY (fI 11))))
  (aA (di (aW (f2 cY (f2 bY (fA bX (fV 0 (ag (fI 1) aj))) (fI 4)) (fI 1))) (aX 3 (f2 eW (am 3) (fA fG (ag (fA bX (fV 0 (ag (fI 1) aj))) (ag (fI 92) (ag (f2 qD (fI 9) (fA eO (fV 3 aj))) aj)))))) aU)
  (aA (K4 [3] (ma (bP (am 3)) (dF 4) lD))
  (gT 2)))))))
def sy:=aE zG 1 7
def sA:FS :=
  (aX 5 (f2 bH (f2 bH (f2 bH (am 0) (am 5)) (fI 1)) (fI 3)))
def CA:FS :=
  (aA (di (dR (aW (f2 dZ (am 2) (am 1))) (aW (f2 cY (f2 bH (f2 bH (f2 bH (am 0) (am 2)) (fI 1)) (fI 0)) (fS "leave")))) (aH (fC (.bl false))) aU)
  (aA (aX 5 (am 2))
  (aA (fz (aW (f2 cY (f2 bH (f2 bH (f2 bH (am 0) (am 5)) (fI 1)) (fI 0)) (fS "copy"))) sA 1000)
  (aA (aX 6 (f2 bH (f2 bH (f2 bH (am 0) (am 5)) (fI 1)) (fI 4)))
  (aA (di (dR (aW (f2 yE (am 3) (bW 6 0))) (dm (aW (f2 gP (bW 6 1) (fC .non))) (aW (f2 Nv (am 3) (bW 6 1))))) (aH (fC (.bl false))) aU)
  (aA (aX 7 (f2 bH (f2 bH (f2 bH (am 0) (am 5)) (fI 1)) (fI 5)))
  (aH (Aw (f2 qJ (am 4) (fC .non)) (Aw (f2 qJ (am 7) (fC .non)) (f2 cY (am 7) (am 4)))))))))))
def qo:=aE CA 5 3
def Bm:FS :=
  (aA (aX 8 (f2 bH (fA bS (ag (fC .non) (ag (fS "ann") (ag (f2 bH (fA bS (ag (fS "bob") (ag (fS "cid") (ag (fS "dan") (ag (fS "eve") aj))))) (f2 bY (bW 3 4) (fI 4))) aj)))) (f2 bY (f2 eW (am 7) (bW 3 5)) (fI 3))))
  (aA (aX 9 (fA lC (fV 2 (fV 4 (fV 5 (fV 7 (fV 8 aj)))))))
  (aA (di (dR (cx (aW (fA bD (fV 9 (ag (fC (.ty "bool")) aj))))) (aW (f2 xn (am 9) (fA qo (fV 1 (fV 6 (fV 7 (fV 5 (fV 8 aj))))))))) (aH (fC (.bl false))) aU)
  (di (dm (aW (f2 qJ (am 8) (fC .non))) (aW (f2 xn (Rx lC (fV 2 (fV 4 (fV 5 (fV 7 aj))))) (am 9)))) (aH (fC (.bl false))) aU))))
def Bn:FS :=
  (aA (aX 6 (fA gy (fV 2 (fV 4 (fV 5 aj)))))
  (oS (md (fA eO (fV 1 aj))) (dF 7) Bm))
def Bo:FS :=
  (K4 [3] (ma (bP (fA bS (ag (f2 bY (bW 3 1) (fI 6)) (ag (f2 eW (fI 5) (f2 bY (bW 3 2) (fI 14))) aj)))) (dF 5) Bn))
def KE:FS :=
  (aA (aX 1 (fA sy (fV 0 aj)))
  (aA (aX 2 (fA jl (fV 1 aj)))
  (aA (aX 3 (fA fG (ag (fA bX (fV 0 (ag (fI 1) aj))) (ag (fI 60) (ag (fI 6) aj)))))
  (aA (K4 [3] (ma (bP (fA bS (ag (fI 9999) (ag (f2 bY (bW 3 0) (fI 12)) aj)))) (dF 4) Bo))
  (aH (fC (.bl true)))))))
def F_law:=aE KE 1 9
end Lw
namespace DL
open PySem L2
theorem jW:∀(n m:Nat)(d:D),n<=m->aQ n d=true->aQ m d=true
 |n,m,.non,_,_=>by simp
 |n,m,.bl _,_,_=>by simp
 |n,m,.int _,_,_=>by simp
 |n,m,.str _,_,_=>by simp
 |n,m,.ty _,_,h=>by cases n<;>simp[aQ]at h
 |n,m,.dk _ _,_,h=>by simp at h
 |n,m,.dt _ _,_,h=>by simp at h
 |0,m,.tup _,_,h=>by simp[aQ]at h
 |0,m,.lst _,_,h=>by simp[aQ]at h
 |n+1,0,_,h,_=>by omega
 |n+1,m+1,.tup ds,hl,h=>by
  simp only[aQ,all_eq_true]at h ⊢;exact λd hd=>jW n m d (by omega) (h d hd)
 |n+1,m+1,.lst ds,hl,h=>by
  simp only[aQ,all_eq_true]at h ⊢;exact λd hd=>jW n m d (by omega) (h d hd)
theorem oB:∀(ds:LD),(∀d∈ds,cQ d d=true)->fW ds ds=true
 |[],_=>by simp only[fW]
 |d::ds,h=>by
  simp only[fW,h d mX,Bool.true_and];exact oB ds λe he=>h e (mZ _ he)
theorem sC:∀(n:Nat)(d:D),aQ n d=true->cQ d d=true
 |n,.non,_=>by simp
 |n,.bl _,_=>by simp
 |n,.int _,_=>by simp
 |n,.str _,_=>by simp
 |n,.ty _,h=>by cases n<;>simp[aQ]at h
 |n,.dk _ _,h=>by simp at h
 |n,.dt _ _,h=>by simp at h
 |0,.tup _,h=>by simp[aQ]at h
 |0,.lst _,h=>by simp[aQ]at h
 |n+1,.tup ds,h=>by
  simp only[aQ,all_eq_true]at h;simp only[cQ];exact oB ds λd hd=>sC n d (h d hd)
 |n+1,.lst ds,h=>by
  simp only[aQ,all_eq_true]at h;simp only[cQ];exact oB ds λd hd=>sC n d (h d hd)
end DL
namespace DL
@[simp] noncomputable abbrev sF (d:D):OB:=some (d,false)
@[simp] noncomputable abbrev lT (ds:LD):OB:=some (.lst ds,true)
@[simp] noncomputable abbrev sI (x:Int):OB:=some (.int x,false)
@[simp] noncomputable abbrev sS (x:PySem.Str):OB:=some (.str x,false)
@[simp] noncomputable abbrev sT (x:LD):OB:=some (.tup x,false)
@[simp] noncomputable abbrev sL (x:LD):OB:=some (.lst x,false)
@[simp] noncomputable abbrev sO (x:Bool):OB:=some (.bl x,false)
def cc {r:OB}{d:D}{b:Bool}(h:Pa r d b=true:=by decide +kernel):r=some (d,b):=rE h
def dP {p q:Prop}[Decidable p](h:p)(n:decide p=false:=by decide +kernel):q:=absurd h (of_decide_eq_false n)
end DL
namespace Lw
open PySem DL L2
def HE (d:D)(r:LD):oR (d::r) 0=some d:=by have:=kO (xs:=d::r) (j:=0) (by simp);simpa using this
def E4 (d e:D)(r:LD):oR (d::e::r) 1=some e:=by have:=kO (xs:=d::e::r) (j:=1) (by simp);simpa using this
def Ts (d e f:D)(r:LD):oR (d::e::f::r) 2=some f:=by have:=kO (xs:=d::e::f::r) (j:=2) (by simp);simpa using this
noncomputable def cU (k:Str):Bool:=decide (k = "death") || decide (k = "lost") || decide (k = "found")
noncomputable def eI (k:Str):Bool:=decide (k = "chosen") || decide (k = "heir") || decide (k = "leave") || decide (k = "paper") || decide (k = "like") || decide (k = "copy") || decide (k = "call")
structure DeedP (kind:Str)(ay:List D):Prop where
 flat:bB ay=true
 plain:ay.all (aQ 5)=true
 three:cU kind=true->∃(day:Int)(p:Str),ay=[.int day,.str p]
 slg:eI kind=true->∃(day:Int)(p:Str)(r:List D),ay=.int day::.str p::r
noncomputable def row (h:Int)(kind:Str)(ay:LD):D:=.tup [.int h,.tup (.str kind::ay)]
def oC (r:D):Prop:=∃h kind ay,r=row h kind ay/\DeedP kind ay
def oC.flat (h:oC r):b8 r=true:=by obtain⟨a,k,ay,rfl,dp⟩:=h;simp[row,dp.flat]
def oC.plain (h:oC r):aQ 39 r=true:=by
 obtain⟨a,k,ay,rfl,dp⟩:=h;refine jW 7 39 _ (by decide) ?_;have:=dp.plain;simp only[row,aQ,all_cons,all_nil,Bool.and_true,Bool.true_and];exact this
def ce (h:∀d∈ds,b8 d=true):bB ds=true:=by
 induction ds with
 |nil=>rfl
 |cons d r G=>simp[h d (by simp),G λe he=>h e (by simp[he])]
def gL (zs:LS):bB (zs.map D.str)=true:=by
 induction zs with
 |nil=>rfl
 |cons a l G=>simp[G]
noncomputable def bo:D->Int
 |.tup (.int h::_)=>h
 |_=>0
noncomputable def kindOf:D->Str
 |.tup [_,.tup (.str k::_)]=>k
 |_=>("" : Str)
noncomputable def aF:D->Int
 |.tup [_,.tup (_::.int d::_)]=>d
 |_=>0
noncomputable def wx (p:Str)(day:Int):LD->Bool
 |[.int d,.str q]=>decide (q=p) && decide (d<=day)
 |_=>false
def told (G:LS)(p:Str)(day:Int):D->Bool
 |.tup [_,.tup (.str kind::ay)]=>decide (kind∈G) && wx p day ay
 |_=>false
def dC (h:Int)(kind:Str)(ay:LD):aD [row h kind ay]=sS kind:=aw rfl (ax (by simp[row,E4,HE]))
def lf (h:cU k=true):k = "death" ∨ k = "lost" ∨ k = "found":=by
 unfold cU at h;simp only[Bool.or_eq_true,decide_eq_true_eq]at h;rcases h with (h|h)|h
 ·exact .inl h
 ·exact .inr (.inl h)
 ·exact .inr (.inr h)
def m9 (h:eI k=true):k = "chosen" ∨ k = "heir" ∨ k = "leave" ∨ k = "paper" ∨ k = "like" ∨ k = "copy" ∨ k = "call":=by
 unfold eI at h;simp only[Bool.or_eq_true,decide_eq_true_eq]at h;rcases h with (((((h|h)|h)|h)|h)|h)|h
 ·exact .inl h
 ·exact .inr (.inl h)
 ·exact .inr (.inr (.inl h))
 ·exact .inr (.inr (.inr (.inl h)))
 ·exact .inr (.inr (.inr (.inr (.inl h))))
 ·exact .inr (.inr (.inr (.inr (.inr (.inl h)))))
 ·exact .inr (.inr (.inr (.inr (.inr (.inr h)))))
def Jk (h:cU k=true∨eI k=true):mq bM (.str k) (.str "day")=sI 0:=by
 rcases h with h|h
 ·rcases lf h with rfl|rfl|rfl<;>exact cc
 ·rcases m9 h with rfl|rfl|rfl|rfl|rfl|rfl|rfl<;>exact cc
def Bp (h:cU k=true):mq bM (.str k) (.str "person")=sI 1:=by
 rcases lf h with rfl|rfl|rfl<;>exact cc
def G1 (h:cU k=true∨eI k=true):cY (.str k) (.str "root")=sO false:=by
 rcases h with h|h
 ·rcases lf h with rfl|rfl|rfl<;>exact cc
 ·rcases m9 h with rfl|rfl|rfl|rfl|rfl|rfl|rfl<;>exact cc
def be {h:Int}{k:Str}{ay:LD}{part:Str}{i:Nat}{d:D}(hi:mq bM (.str k) (.str part)=sI i)(hd:ay[i]? = some d):av [row h k ay,.str part]=some (d,false):=by
 refine aw rfl (ax ?_);refine bT (.tup (.str k::ay)) (.int (1+i)) (by simp[row,E4]) (bT (.int 1) (.int i) rfl (bT (.str k) (.str part) (aP [row h k ay] rfl (dC _ _ _)) rfl hi) (by simp)) ?_;have G:i<ay.length:=(vV hd).1;have:oR (.str k::ay) (1+(i:Int))=some d:=by
  have:=kO (xs:=(.str k:D)::ay) (j:=i+1) (by simp;omega);rw[show(1+(i:Int))=((i+1:Nat):Int) by omega,this];simp only[List.getElem_cons_succ];rw[vU G]at hd;exact hd
 simp[this]
def jD {h:Int}{k:Str}{ay:LD}{d:Int}{r:LD}(hk:cU k=true∨eI k=true)(G:ay=.int d::r):aR [row h k ay]=sI d:=by
 subst G;refine aw rfl (aM (dj (bT (.str k) (.str "root") (aP [row h k (.int d::r)] rfl (dC _ _ _)) rfl (G1 hk))) (ax (aP [row h k (.int d::r),.str "day"] rfl (be (i:=0) (Jk hk) rfl))))
def nL (k:Str)(G:LS):E2 (.str k) (G.map .str)=decide (k∈G):=by
 induction G with
 |nil=>simp[E2]
 |cons w G M=>
  have:E2 (.str k) ((w::G).map .str)=(cQ (.str w) (.str k) || E2 (.str k) (G.map .str)):=rfl;rw[this,M,oV];by_cases e:w=k
  ·simp[e]
  ·have O:¬k=w:=λz=>e z.symm;simp[e,O]
def lE (G:LS):(G.map D.str).all fX=true:=by
 induction G with
 |nil=>rfl
 |cons w G M=>simp[fX]
def nM (k:Str)(G:LS):AK (.str k) (.tup (G.map .str))=sO (decide (k∈G)):=by
 simp only[AK,fY,vJ,nL];rw[if_pos ⟨rfl,lE G⟩]
def G2 (O:oC r)(G:LS)(hw:∀w∈G,cU w=true)(p:Str)(day:Int):ql [r,.tup (G.map .str),.str p,.int day]=sO (told G p day r):=by
 obtain⟨h,kind,ay,rfl,dp⟩:=O;have M:f2 AK (fA aD (fV 0 aj)) (am 1) [some (row h kind ay,false),sT (G.map .str),sS p,sI day]=sO (decide (kind∈G)) :=
  bT (.str kind) (.tup (G.map .str)) (aP [row h kind ay] rfl (dC _ _ _)) rfl (nM kind G)
 have T:told G p day (row h kind ay)=(decide (kind∈G) && wx p day ay):=rfl;rw[T];refine aw rfl (ax (dc (b1:=false) M λhk=>?_));have h3:=hw kind (RV hk);obtain⟨d,q,rfl⟩:=dp.three h3;show gX _ _ _=sO (decide (q=p) && decide (d<=day));refine dc (b1:=false) ?_ λ_=>?_
 ·exact bT (.str q) (.str p) (aP [row h kind [.int d,.str q],.str "person"] rfl (be (i:=1) (Bp h3) rfl)) rfl (by simp)
 ·exact bT (.int d) (.int day) (aP [row h kind [.int d,.str q]] rfl (jD (.inl h3) rfl)) rfl (by simp)
def G3 (ds:LD):uM ds=ds.zipIdx.map λx=>.tup [.int x.2,x.1]:=by
 unfold uM;apply ext_getElem?;intro i;simp[List.getElem?_mapIdx,List.getElem?_zipIdx];cases ds[i]?<;>simp
noncomputable def au (af:LD)(ae:Int):List (D×Nat):=af.zipIdx.filter λx=>decide (bo x.1<=ae)
def lg (af:LD)(G:∀r∈af,oC r)(hl:af.length<=1000)(ae:Int):cE [.tup af,.int ae]=lT ((au af ae).map λx=>.int x.2):=by
 have hc:=fZ (fi:=F9 (am 0)) (nT:=2) (cap:=[1]) (tg:=F0 [0,1]) (c:=aW (f2 qI (bW 1 0) (am 2))) (fe:=am 0) (ρ:=[sT af,sI ae]) af.zipIdx (λx=>.tup [.int x.2,x.1]) (λx=>decide (bo x.1<=ae)) (λx=>.int x.2)
  (by simp[G3]) (by simp;omega) λx hx=>by
   obtain⟨h,kind,ay,e,_⟩:=G x.1 (List.fst_mem_of_mem_zipIdx hx);refine⟨_,rfl,dj ?_,λ_=>⟨false,by simp[dr]⟩⟩;simp[dr,e,row,HE,bo]
 exact aw rfl (ax hc)
def pV (af:LD)(ae:Int)(G:LS)(p:Str)(day:Int):List (D×Nat):=(au af ae).filter λx=>told G p day x.1
def CB (h:x∈pV af ae ws p day):af[x.2]? = some x.1/\told ws p day x.1=true:=by
 obtain⟨h1,h2⟩:=vN h;exact⟨(List.mk_mem_zipIdx_iff_getElem? (x:=x.1) (i:=x.2)).mp (vN h1).1,h2⟩
def cf {af:LD}{i:Nat}{r:D}(h:af[i]? = some r):oR af (i:Int)=some r:=by
 obtain⟨G,e⟩:=vV h;rw[kO G,e]
def Jl (af:LD)(ae:Int)(G:LS)(p:Str)(day:Int):(pV af ae G p day).length<=af.length:=by
 have h1:=vM (λx:D×Nat=>told G p day x.1) (au af ae);have h2:=vM (λx:D×Nat=>decide (bo x.1<=ae)) af.zipIdx;rw[length_zipIdx]at h2;exact vR h1 h2
def xR (af:LD)(M:∀r∈af,oC r)(hl:af.length<=1000)(ae:Int)(G:LS)(hw:∀w∈G,cU w=true)(p:Str)(day:Int):
  hZ [.tup af,.int ae,.tup (G.map .str),.str p,.int day]=lT ((pV af ae G p day).map λx=>.int x.2):=by
 have hc:=fZ (fi:=bP (fA cE (fV 0 (fV 1 aj)))) (nT:=1) (cap:=[2,3,4,0]) (tg:=dF 0) (c:=aW (fA ql (ag (f2 bH (am 4) (am 0)) (fV 1 (fV 2 (fV 3 aj)))))) (fe:=am 0)
  (ρ:=[sT af,sI ae,sT (G.map .str),sS p,sI day]) (au af ae) (λx=>.int x.2) (λx=>told G p day x.1) (λx=>.int x.2)
  (by
   show(fA cE (fV 0 (fV 1 aj)) _).bind _=_;rw[aP [.tup af,.int ae] rfl (lg af M hl ae)];rfl) (by have:=vM (λx:D×Nat=>decide (bo x.1<=ae)) af.zipIdx;rw[length_zipIdx]at this;exact vR this (by omega)) λx hx=>by
   have O:af[x.2]? = some x.1:=(List.mk_mem_zipIdx_iff_getElem? (x:=x.1) (i:=x.2)).mp (vN hx).1;refine⟨_,rfl,dj (aP [x.1,.tup (G.map .str),.str p,.int day] ?_ (G2 (M _ (vL O)) G hw p day)),λ_=>⟨false,by simp[dr]⟩⟩;have ha:=cf O;simp[dr,ha]
 exact aw rfl (ax hc)
def kA (x:D×Nat):List At:=[.i (aF x.1),.i x.2]
def fQ (a b:D×Nat):Bool:=decide (aF a.1<aF b.1∨(aF a.1=aF b.1/\(a.2:Int)<b.2))
def gS:D×Nat->List (D×Nat)->D×Nat
 |b,[]=>b
 |b,x::r=>if fQ b x=true then gS x r else gS b r
def KG:List (D×Nat)->Option (D×Nat)
 |[]=>none
 |x::r=>some (gS x r)
def My (a b c d:Int):bp [.i a,.i b] [.i c,.i d]=some (decide (a<c∨(a=c/\b<d))):=by
 rw[bp];by_cases h:a=c
 ·rw[if_pos h,bp];by_cases h2:b=d
  ·rw[if_pos h2,bp];simp[h,h2]
  ·rw[if_neg h2];simp[h]
 ·rw[if_neg h];simp[h]
def Bq (a b:D×Nat):bp (kA a) (kA b)=some (fQ a b):=My _ _ _ _
def xS (l:List (D×Nat)):eV (l.map kA)=true:=by
 unfold eV;simp[all_eq_true,Bq]
theorem oD:∀(r:List (D×Nat))(b:D×Nat),ng (kA b,.int b.2) (r.map λx=>(kA x,D.int x.2))=.int (gS b r).2
 |[],b=>rfl
 |x::r,b=>by
  rw[uY,ng,gS];show(if bp (kA b) (kA x)=some true then _ else _)=_;rw[Bq];by_cases h:fQ b x=true
  ·rw[if_pos h,if_pos (by rw[h])];exact oD r x
  ·rw[if_neg h,if_neg (by simpa using h)];exact oD r b
theorem sD:∀(r:List (D×Nat))(b:D×Nat),gS b r∈b::r
 |[],b=>by simp[gS]
 |x::r,b=>by
  rw[gS];split
  ·exact mZ _ (sD r x)
  ·rcases vP (sD r b)with h|h
   ·rw[h];exact mX
   ·exact mZ _ (mZ _ h)
theorem iF {α:Type}{f:D->Option D}{g h:α->D}:∀(l:List α),(∀x∈l,f (g x)=some (h x))->j7 f (l.map g)=some (l.map h)
 |[],_=>rfl
 |x::l,hx=>by
  rw[uY,j7,hx x mX,vJ,iF l λy hy=>hx y (mZ _ hy)];rfl
theorem ia {α:Type}{g:α->D}{h:α->List At}:∀(l:List α),(∀x∈l,ze (g x)=some (h x))->dM (l.map g)=some (l.map h)
 |[],_=>rfl
 |x::l,hx=>by
  rw[uY,dM,hx x mX,vJ,ia l λy hy=>hx y (mZ _ hy)];rfl
noncomputable def nN:LS:=[("lost" : Str),"found"]
def pF:∀w∈nN,cU w=true:=by
 intro w hw;rcases vP hw with rfl|hw
 ·decide +kernel
 ·rcases vP hw with rfl|hw
  ·decide +kernel
  ·cases hw
def zH (af:LD)(ae:Int)(p:Str)(day:Int):Bool:=match KG (pV af ae nN p day) with
 |none=>true
 |some b=>decide (kindOf b.1 = "found")
def sE (hw:∀w∈ws,cU w=true)(M:oC r)(O:told ws p day r=true):∃h k d,r=row h k [.int d,.str p]/\cU k=true/\k∈ws/\d<=day:=by
 obtain⟨h,kind,ay,rfl,dp⟩:=M;have G:(decide (kind∈ws) && wx p day ay)=true:=O;rw[vC]at G;have hm:=RV G.1;obtain⟨d,q,rfl⟩:=dp.three (hw _ hm);have hq:(decide (q=p) && decide (d<=day))=true:=G.2;rw[vC]at hq;have:=RV hq.1;subst this;exact⟨h,kind,d,rfl,hw _ hm,hm,RV hq.2⟩
def CC {af:LD}{i:Nat}{h d:Int}{k p:Str}(G:af[i]? = some (row h k [.int d,.str p]))(h3:cU k=true):fE [.tup af,.int i]=sT [.int d,.int i]:=by
 have ha:=cf G;refine aw rfl (ax (aP [.int d,.int i] (aN (d:=.int d) (b:=false) (aP [row h k [.int d,.str p]] (by simp[ha]) (jD (.inl h3) rfl)) rfl) (by simp[sizeLine])))
def Jm (af:LD)(hr:∀r∈af,oC r)(hl:af.length<=1000)(ae:Int)(p:Str)(day:Int):mv [.tup af,.int ae,.str p,.int day]=sO (zH af ae p day):=by
 have ht:=xR af hr hl ae nN pF p day;have U:=Jl af ae nN p day;have M:∀x∈pV af ae nN p day,∃h k d,af[x.2]? = some (row h k [.int d,.str p])/\x.1=row h k [.int d,.str p]/\cU k=true:=λx hx=>by
  obtain⟨O,SF⟩:=CB hx;obtain⟨h,k,d,e,h3,_⟩:=sE pF (hr _ (vL O)) SF;exact⟨h,k,d,by rw[O,e],e,h3⟩
 unfold zH;generalize hsel:pV af ae nN p day=sel at ht M U ⊢;have G:fA hZ (fV 0 (fV 1 (ag (fA bi (ag (fS "lost") (ag (fS "found") aj))) (fV 2 (fV 3 aj))))) [sT af,sI ae,sS p,sI day,none]=lT (sel.map λx=>.int x.2) :=
  aP [.tup af,.int ae,.tup (nN.map .str),.str p,.int day] (by simp[nN,sizeLine]) ht
 have T:bB (sel.map λx=>D.int x.2)=true:=ce λd hd=>by obtain⟨x,_,rfl⟩:=vO hd;rfl
 cases sel with
 |nil=>exact aw rfl (cI G T (bw (dj (by simp)) (ax rfl)))
 |cons x r=>
  refine aw rfl (cI G T (aM (dj (by simp;omega)) (ax ?_)));obtain⟨h,k,d,O,e,h3⟩:=M (gS x r) (sD r x);have hb:kindOf (gS x r).1=k:=by rw[e];rfl
  show _=some (D.bl (decide (kindOf (gS x r).1 = "found")),false);rw[hb];refine bT (.str k) (.str "found") (aP [row h k [.int d,.str p]] (aN (d:=row h k [.int d,.str p]) (b:=false) (bT (.tup af) (.int (gS x r).2) rfl ?_ (by simp[cf O])) rfl) (dC _ _ _)) rfl (by simp);have hm:∀ρ:DL.Env,ρ[0]? = some (sT af)->j7 (rd [0] (fA fE (fV 1 (fV 0 aj))) ρ) ((x::r).map λx=>D.int x.2)=some ((x::r).map λx=>.tup [.int (aF x.1),.int x.2]):=λρ h0=>
   iF (x::r) λy hy=>by
    obtain⟨h,k,d,O,e,h3⟩:=M y hy;have hd:aF y.1=d:=by rw[e];rfl
    rw[hd];show(fA fE _ _).map _=_;rw[aP [.tup af,.int y.2] (by simp[dr,h0]) (CC O h3)];rfl
  have hk:dM ((x::r).map λx=>D.tup [.int (aF x.1),.int x.2])=some ((x::r).map kA):=ia (x::r) λy _=>rfl;have hz:((x::r).map kA).zip ((x::r).map λx=>D.int x.2)=(kA x,.int x.2)::r.map λx=>(kA x,D.int x.2):=by
   rw[zip_map'];rfl
  show(vw (am 4) _ _)=_;unfold vw Mq;show((some (D.lst ((x::r).map λx=>D.int x.2),false)).bind _)=_;simp only[vJ];rw[hm _ rfl];simp only[vJ];rw[hk];simp only[vJ];rw[if_pos (xS _),hz];simp only[oD]
noncomputable def eJ:LS:=[("death" : Str)]
def jX:∀w∈eJ,cU w=true:=by
 intro w hw;rcases vP hw with rfl|hw
 ·decide +kernel
 ·cases hw
def oE (af:LD)(ae:Int)(p:Str)(day:Int):Bool:=(pV af ae eJ p day).isEmpty
def zI (af:LD)(M:∀r∈af,oC r)(hl:af.length<=1000)(ae:Int)(p:Str)(day:Int):nD [.tup af,.int ae,.str p,.int day]=sO (oE af ae p day):=by
 have G:=xR af M hl ae eJ jX p day;unfold oE;generalize pV af ae eJ p day=sel at G ⊢;refine aw rfl (ax (bT (.int ((sel.map λx=>D.int x.2).length:Nat)) (.int 0) ?_ rfl ?_))
 ·exact aP [.lst (sel.map λx=>.int x.2)] (aN (d:=.lst (sel.map λx=>.int x.2)) (b:=true) (aP [.tup af,.int ae,.tup (eJ.map .str),.str p,.int day] (by simp[sizeLine,eJ]) G) rfl) Jj
 ·rw[Cz];cases sel<;>simp
  omega
noncomputable def cR:D->Str
 |.tup [_,.tup (_::_::.str p::_)]=>p
 |_=>("" : Str)
noncomputable def zJ:LS:=[("chosen" : Str),"heir","leave","paper","like","copy","call"]
def sG (k:Str):eI k=decide (k∈zJ):=by
 unfold eI zJ;simp[mem_cons,Bool.or_assoc]
def Br:i6=.tup (zJ.map .str):=rfl
def pG (k:Str)(G:LS):dZ (.str k) (.tup (G.map .str))=sO (!decide (k∈G)):=by
 simp only[dZ,fY,vJ,nL];rw[if_pos ⟨rfl,lE G⟩]
def G4 (h:eI k=true):mq bM (.str k) (.str "by")=sI 1:=by
 rcases m9 h with rfl|rfl|rfl|rfl|rfl|rfl|rfl<;>exact cc
def jp (af:LD)(ae:Int)(r:D):Bool:=(decide (bo r<=ae) && eI (kindOf r)) && (oE af ae (cR r) (aF r) && zH af ae (cR r) (aF r))
def lh {af:LD}{i:Nat}{h:Int}{kind:Str}{ay:LD}(G:af[i]? = some (row h kind ay))(ae:Int):cC [.tup af,.int ae,.int i]=sO (decide (h<=ae)):=by
 have M:i<af.length:=(vV G).1;have ha:=cf G;refine aw rfl (ax ?_);have:=dc (f1:=ib qI yE (fI 0) (am 2) (fA eO (fV 0 aj))) (f2:=f2 qI (f2 bH (f2 bH (am 0) (am 2)) (fI 0)) (am 1)) (ρ:=[sT af,sI ae,sI i]) (p:=true) (q:=decide (h<=ae)) (b1:=false)
  (by
   refine(zv (x:=.int 0) (y:=.int i) (z:=.int af.length) (b1:=false) (b2:=false) (b3:=false) (b4:=false) (p:=true) (q:=true) rfl rfl (by simp) (by simp) λ_=>?_).trans rfl;simp;omega) λ_=>by simp[ha,row,HE]
 exact this
def sJ (af:LD)(O:∀r∈af,oC r)(hl:af.length<=1000)(ae:Int){i:Nat}{r:D}(T:af[i]? = some r):gn [.tup af,.int ae,.int i]=sO (jp af ae r):=by
 obtain⟨h,kind,ay,rfl,dp⟩:=O r (vL T);have hk:=lh T ae;have ha:=cf T;have M:∀(ρ:DL.Env),f2 bH (am 0) (am 2) ρ=some (row h kind ay,false)->fA aD (ag (f2 bH (am 0) (am 2)) aj) ρ=sS kind:=λρ e=>aP [row h kind ay] (aN e rfl) (dC _ _ _);have G:f2 bH (am 0) (am 2) [sT af,sI ae,sI i,none,none]=some (row h kind ay,false):=by simp[ha]
 have hc:(dR (cx (aW (fA cC (fV 0 (fV 1 (fV 2 aj)))))) (aW (f2 dZ (fA aD (ag (f2 bH (am 0) (am 2)) aj)) (fC i6)))) [sT af,sI ae,sI i,none,none]=some (!decide (h<=ae) || !eI kind):=by
  refine de (ca (dj (aP [.tup af,.int ae,.int i] rfl hk))) λ_=>dj (bT (.str kind) i6 (M _ G) rfl ?_);rw[Br,sG];exact pG kind zJ
 have hs:jp af ae (row h kind ay)=((decide (h<=ae) && eI kind) && (oE af ae (cR (row h kind ay)) (aF (row h kind ay)) && zH af ae (cR (row h kind ay)) (aF (row h kind ay)))):=rfl;cases hb:(decide (h<=ae) && eI kind) with
 |false=>
  rw[hs,hb];refine aw rfl (bw (hc.trans ?_) (ax rfl));rw[←Bool.not_and,hb];rfl
 |true=>
  rw[hs,hb];rw[vC]at hb;obtain⟨day,p,U,rfl⟩:=dp.slg hb.2;show _=some (D.bl (true && (oE af ae p day && zH af ae p day)),false);rw[Bool.true_and];refine aw rfl (aM (hc.trans (by rw[hb.1,hb.2];rfl)) (iz (.str p) (aP [row h kind (.int day::.str p::U),.str "by"] (aN G rfl) (be (i:=1) (G4 hb.2) rfl)) rfl (iz (.int day) (aP [row h kind (.int day::.str p::U)] (aN (d:=row h kind (.int day::.str p::U)) (b:=false) (by simp[ha]) rfl) (jD (.inr hb.2) rfl)) rfl (ax ?_))));exact dc (b1:=false) (aP [.tup af,.int ae,.str p,.int day] (by simp) (zI af O hl ae p day)) λ_=>aP [.tup af,.int ae,.str p,.int day] (by simp) (Jm af O hl ae p day)
inductive Cd:Str->List D->Prop
 |root (o r:Str) (m f:Int):Cd ("root" : Str) [.str o,.int m,.int f,.str r]
 |named (d:Int) (o p:Str):Cd ("named" : Str) [.int d,.str o,.str p]
 |chosen (d:Int) (b o p:Str) (s:Int):Cd ("chosen" : Str) [.int d,.str b,.str o,.str p,.int s]
 |heir (d:Int) (b o p:Str):Cd ("heir" : Str) [.int d,.str b,.str o,.str p]
 |three (k:Str) (hk:k = "death" ∨ k = "lost" ∨ k = "found") (d:Int) (p:Str):Cd k [.int d,.str p]
 |other (k:Str) (hk:k = "leave" ∨ k = "paper" ∨ k = "like" ∨ k = "copy" ∨ k = "call") (d:Int) (b:Str) (r:List D) (hf:bB r=true) (hp:r.all (aQ 5)=true):Cd k (.int d::.str b::r)
def Cd.deed (h:Cd k r):DeedP k r:=by
 cases h with
 |root o rl m f=>exact⟨rfl,by simp,λh=>dP h,λh=>dP h⟩
 |named d o p=>exact⟨rfl,by simp,λh=>dP h,λh=>dP h⟩
 |chosen d b o p s=>exact⟨rfl,by simp,λh=>dP h,λ_=>⟨d,b,_,rfl⟩⟩
 |heir d b o p=>exact⟨rfl,by simp,λh=>dP h,λ_=>⟨d,b,_,rfl⟩⟩
 |three k hk d p=>exact⟨rfl,by simp,λ_=>⟨d,p,rfl⟩,λh=>by rcases hk with rfl|rfl|rfl<;>exact dP h⟩
 |other k hk d b r hf hp=>exact⟨by simp[hf],by simp only[all_cons,hp,aQ,Bool.and_true],λh=>by rcases hk with rfl|rfl|rfl|rfl|rfl<;>exact dP h,λ_=>⟨d,b,r,rfl⟩⟩
def xT (r:D):Prop:=∃h k ay,r=row h k ay/\Cd k ay
def xT.rp (h:xT r):oC r:=by obtain⟨a,k,ay,rfl,d⟩:=h;exact⟨a,k,ay,rfl,d.deed⟩
def bj (r:D):Bool:=decide (kindOf r = "root")
def Cd.day (h:Cd k r)(hk:k ≠ "root"):∃d q,r=.int d::q:=by
 cases h with
 |root=>exact absurd rfl hk
 |named d=>exact⟨d,_,rfl⟩
 |chosen d=>exact⟨d,_,rfl⟩
 |heir d=>exact⟨d,_,rfl⟩
 |three _ _ d=>exact⟨d,_,rfl⟩
 |other _ _ d=>exact⟨d,_,rfl⟩
def Cd.day_idx (h:Cd k r)(hk:k ≠ "root"):mq bM (.str k) (.str "day")=sI 0:=by
 cases h with
 |root=>exact absurd rfl hk
 |named=>exact cc
 |chosen=>exact cc
 |heir=>exact cc
 |three _ hh=>rcases hh with rfl|rfl|rfl<;>exact cc
 |other _ hh=>rcases hh with rfl|rfl|rfl|rfl|rfl<;>exact cc
def bU (e:f ρ=some (.str a,bb))(h:decide (a=b)=x):aW (f2 cY f (fS b)) ρ=some x:=dj (cm (x:=.str a) (y:=.str b) (b1:=bb) (b2:=false) e rfl (by rw[←h];simp))
def um (r:D):D:=if bj r=true then .non else .int (aF r)
def jq (g:xT r):aD [r]=sS (kindOf r):=by
 obtain⟨h,k,ay,rfl,_⟩:=g;exact dC h k ay
def sK (g:xT r):aR [r]=some (um r,false):=by
 obtain⟨h,k,ay,rfl,d⟩:=g;unfold um;by_cases hk:k = "root"
 ·have:bj (row h k ay)=true:=Au hk;rw[if_pos this];exact aw rfl (bw (bU (a:=k) (bb:=false) (aP [row h k ay] rfl (dC _ _ _)) (Au hk)) (ax rfl))
 ·have:bj (row h k ay)=false:=Pz hk;rw[if_neg (by rw[this];decide)];obtain⟨dd,q,rfl⟩:=d.day hk;exact aw rfl (aM (bU (a:=k) (bb:=false) (aP [row h k (.int dd::q)] rfl (dC _ _ _)) (Pz hk)) (ax (aP [row h k (.int dd::q),.str "day"] rfl (be (i:=0) (d.day_idx hk) rfl))))
def gM (af:LD):Prop:=af.length<=60/\∀r∈af,xT r
def gM.rp (g:gM af):∀r∈af,oC r:=λr G=>(g.2 r G).rp
def gM.le (g:gM af):af.length<=1000:=vR g.1 (by decide)
def b9 (h:x∈au af ae):af[x.2]? = some x.1:=by
 obtain⟨h1,_⟩:=vN h;exact List.mem_zipIdx_iff_getElem?.mp h1
def c6 (af:LD)(ae:Int):(au af ae).length<=af.length:=by
 have:=vM (λx:D×Nat=>decide (bo x.1<=ae)) af.zipIdx;rw[length_zipIdx]at this;exact this
def fR (af:LD)(ae:Int):((au af ae).map (·.2)).Nodup:=by
 have h1:(af.zipIdx.map (·.2)).Nodup:=by rw[List.zipIdx_map_snd];exact List.nodup_range'
 exact List.Nodup.sublist (List.Sublist.map _ (filter_sublist)) h1
def dh (af:LD)(ae:Int):List (D×Nat):=(au af ae).filter λx=>!bj x.1
def Pd (af:LD)(ae:Int):List (D×Nat):=eU (λx=>cM (kA x)) (dh af ae)
def G5 (h:cM (kA a)=cM (kA b)):a.2=b.2:=by
 have h:[aF a.1,(a.2:Int)]=[aF b.1,(b.2:Int)]:=h;injection h with _ h;injection h with h;omega
def Jn (ha:a∈au af ae)(hb:b∈au af ae)(h:a.2=b.2):a=b:=by
 have h1:=b9 ha;have h2:=b9 hb;rw[h,h2]at h1;exact Prod.ext (vK h1).symm h
def pH (g:gM af)(ae:Int):eE [.tup af,.int ae]=lT ((Pd af ae).map λx=>.int x.2):=by
 have hl:=g.1;have QG:=c6 af ae;have M:∀x∈au af ae,oR af (x.2:Int)=some x.1/\xT x.1:=λx hx=>⟨cf (b9 hx),g.2 _ (vL (b9 hx))⟩;have hc:=fZ (fi:=bP (fA cE (fV 0 (fV 1 aj)))) (nT:=1) (cap:=[0]) (tg:=dF 0) (c:=aW (f2 gP (fA aR (ag (f2 bH (am 1) (am 0)) aj)) (fC .non))) (fe:=am 0) (ρ:=[sT af,sI ae,none]) (au af ae) (λx=>.int x.2) (λx=>!bj x.1) (λx=>.int x.2)
  (by
   show(fA cE (fV 0 (fV 1 aj)) _).bind _=_;rw[aP [.tup af,.int ae] rfl (lg af g.rp g.le ae)];rfl) (by omega) λx hx=>by
   obtain⟨ha,T⟩:=M x hx;refine⟨_,rfl,dj (bT (um x.1) .non (aP [x.1] (by simp[dr,ha]) (sK T)) rfl ?_),λ_=>⟨false,by simp[dr]⟩⟩;unfold um;cases bj x.1<;>simp[kE]
 have U:bO (bP (fA cE (fV 0 (fV 1 aj)))) 1 [0] (dF 0) (aW (f2 gP (fA aR (ag (f2 bH (am 1) (am 0)) aj)) (fC .non))) (am 0) [sT af,sI ae,none]=lT ((dh af ae).map λx=>.int x.2):=hc;have Ng:bB ((dh af ae).map λx=>D.int x.2)=true:=ce λd hd=>by obtain⟨x,_,rfl⟩:=vO hd;rfl
 have NJ:(dh af ae).length<=60:=vR (vM _ _) (by omega);have G:∀x∈dh af ae,x∈au af ae/\bj x.1=false:=λx hx=>by
  obtain⟨h1,h2⟩:=vN hx;exact⟨h1,by simpa using h2⟩
 have hm:∀ρ:DL.Env,ρ[0]? = some (sT af)->j7 (rd [0] (fA fE (fV 1 (fV 0 aj))) ρ) ((dh af ae).map λx=>.int x.2)=some ((dh af ae).map λx=>.tup [.int (aF x.1),.int x.2]):=λρ h0=>
  iF (dh af ae) λx hx=>by
   obtain⟨h1,h2⟩:=G x hx;obtain⟨ha,T⟩:=M x h1;have hd:=sK T;unfold um at hd;rw[h2,if_neg (by decide)]at hd;have hr:fE [.tup af,.int x.2]=sT [.int (aF x.1),.int x.2]:=aw rfl (ax (aP [.int (aF x.1),.int x.2] (aN (d:=.int (aF x.1)) (b:=false) (aP [x.1] (by simp[ha]) hd) rfl) (by simp[sizeLine])));show(fA fE _ _).map _=_;rw[aP [.tup af,.int x.2] (by simp[dr,h0]) hr];rfl
 have hk:dM ((dh af ae).map λx=>D.tup [.int (aF x.1),.int x.2])=some ((dh af ae).map kA):=ia _ λx _=>rfl;have hz:((dh af ae).map kA).zip ((dh af ae).map λx=>D.int x.2)=(dh af ae).map λx=>(kA x,D.int x.2):=by rw[zip_map']
 have Nh:((dh af ae).map (·.2)).Nodup:=List.Nodup.sublist (List.Sublist.map _ (filter_sublist)) (fR af ae);have O:((dh af ae).map kA).length<64/\eV ((dh af ae).map kA)=true/\fO ((dh af ae).map kA)=true/\(((dh af ae).map kA).map cM).Nodup:=by
  refine⟨by rw[vI];omega,xS _,?_,?_⟩
  ·unfold fO;rw[Bool.or_eq_true];left;simp[all_eq_true,kA]
  ·rw[uP];exact List.Pairwise.map _ (λa b h e=>h (G5 e)) (pairwise_map.mp Nh)
 refine aw rfl (cI U Ng (ax ?_));show(rf (am 2) _ _)=_;unfold rf;show((some (D.lst ((dh af ae).map λx=>D.int x.2),false)).bind _)=_;simp only[vJ];rw[hm _ rfl];simp only[vJ];rw[hk];simp only[vJ];rw[if_pos O];unfold j8;rw[hz];have key:((Pd af ae).map λx=>(kA x,D.int x.2))=eU (λp:List At×D=>cM p.1) ((dh af ae).map λx=>(kA x,D.int x.2)):=by
  refine kJ _ (λx hx y hy e=>?_) ((bF _ _).map _) ?_
  ·obtain⟨a,ha,rfl⟩:=vO hx;obtain⟨b,hb,rfl⟩:=vO hy;rw[Jn (G a ha).1 (G b hb).1 (G5 e)]
  ·exact pairwise_map.mpr (iq _ _)
 rw[←key,uP];rfl
structure Cl where
 o:Str
 p:Str
 s:Int
 u:Option Int
 n:Nat
noncomputable def uD:OI->D
 |none=>.non
 |some x=>.int x
def ba (c:Cl):D:=.tup [.str c.o,.str c.p,.int c.s,uD c.u,.int c.n]
def CD (u:OI):b8 (uD u)=true:=by cases u<;>rfl
def nO (c:Cl):b8 (ba c)=true:=by simp[ba,CD]
def jE (cs:List Cl):bB (cs.map ba)=true:=ce λd hd=>by obtain⟨c,_,rfl⟩:=vO hd;exact nO c
noncomputable def iG (c:Cl)(day:Int):Bool:=decide (c.s<=day) && (match c.u with|none=>true|some x=>decide (day<x))
def Va (d e f g:D)(r:LD):oR (d::e::f::g::r) 3=some g:=by have:=kO (xs:=d::e::f::g::r) (j:=3) (by simp);simpa using this
def Vb (d e f g h:D)(r:LD):oR (d::e::f::g::h::r) 4=some h:=by have:=kO (xs:=d::e::f::g::h::r) (j:=4) (by simp);simpa using this
def Pe (c:Cl):bH (ba c) (.int 0)=sS c.o:=by simp[ba,HE]
def N7 (c:Cl):bH (ba c) (.int 1)=sS c.p:=by simp[ba,E4]
def Qx (c:Cl):bH (ba c) (.int 2)=sI c.s:=by simp[ba,Ts]
def Vc (c:Cl):bH (ba c) (.int 3)=some (uD c.u,false):=by simp[ba,Va]
def Qy (c:Cl):bH (ba c) (.int 4)=sI c.n:=by simp[ba,Vb]
def dq (ds:LD)(h:ds.length<=100):bi ds=sT ds:=if_pos (eB (by omega))
def fH (ds:LD)(h:ds.length<=100):bS ds=lT ds:=if_pos (eB (by omega))
def xU (s day:Int)(u:OI):gp [.int day,.tup [.int s,uD u]]=sO (decide (s<=day) && (match u with|none=>true|some x=>decide (day<x))):=by
 refine aw rfl (ax (dc (b1:=false) (by simp[HE]) λ_=>?_));cases u with
 |none=>exact iX (p:=true) (q:=true) (b1:=false) (by simp[E4,uD]) (by simp)
 |some x=>exact iX (p:=false) (q:=decide (day<x)) (b1:=false) (by simp[E4,uD]) λ_=>by simp[E4,uD]
def sM (c:Cl)(day:Int):cN [ba c,.int day]=sO (iG c day) :=
 aw rfl (ax (aP [.int day,.tup [.int c.s,uD c.u]] (cy rfl (cy (aP [.int c.s,uD c.u] (aN (bT (ba c) (.int 2) rfl rfl (Qx c)) (aN (bT (ba c) (.int 3) rfl rfl (Vc c)) rfl)) (dq _ (by simp))) rfl)) (xU c.s day c.u)))
def zK (c:Cl):dA [ba c]=sT [.int c.s,.int c.n] :=
 aw rfl (ax (aP [.int c.s,.int c.n] (aN (bT (ba c) (.int 2) rfl rfl (Qx c)) (aN (bT (ba c) (.int 4) rfl rfl (Qy c)) rfl)) (dq _ (by simp))))
def xV (c:Cl):gJ [ba c]=sT [.str c.o,.int c.s,.int c.n] :=
 aw rfl (ax (aP [.str c.o,.int c.s,.int c.n] (aN (bT (ba c) (.int 0) rfl rfl (Pe c)) (aN (bT (ba c) (.int 2) rfl rfl (Qx c)) (aN (bT (ba c) (.int 4) rfl rfl (Qy c)) rfl))) (dq _ (by simp))))
noncomputable def kS (c:Cl):List At:=[.i c.s,.i c.n]
def nQ:Cl->List Cl->Cl
 |b,[]=>b
 |b,x::r=>if bp (kS x) (kS b)=some true then nQ x r else nQ b r
def uo:Cl->List Cl->Cl
 |b,[]=>b
 |b,x::r=>if bp (kS b) (kS x)=some true then uo x r else uo b r
theorem sP:∀(r:List Cl)(b:Cl),lM (kS b,ba b) (r.map λx=>(kS x,ba x))=ba (nQ b r)
 |[],b=>rfl
 |x::r,b=>by
  rw[uY,lM,nQ];split
  ·exact sP r x
  ·exact sP r b
theorem sQ:∀(r:List Cl)(b:Cl),ng (kS b,ba b) (r.map λx=>(kS x,ba x))=ba (uo b r)
 |[],b=>rfl
 |x::r,b=>by
  rw[uY,ng,uo];split
  ·exact sQ r x
  ·exact sQ r b
def CF (cs:List Cl):eV (cs.map kS)=true:=by
 unfold eV;simp[all_eq_true,kS,My]
def sR (ρ:DL.Env)(cs:List Cl):j7 (uj dA ρ) (cs.map ba)=some (cs.map λc=>.tup [.int c.s,.int c.n]):=iF cs λc _=>by
 show(dA [ba c]).map _=_;rw[zK];rfl
def pJ (cs:List Cl):dM (cs.map λc=>D.tup [.int c.s,.int c.n])=some (cs.map kS):=ia cs λc _=>rfl
def G6 (e:f ρ=some (.lst ((b::r).map ba),bb)):vx f (uj dA) ρ=some (ba (nQ b r),false):=by
 unfold vx Mq;rw[e,vJ];dsimp only;rw[sR,vJ,pJ,vJ,if_pos (CF _)];have:((b::r).map kS).zip ((b::r).map ba)=(kS b,ba b)::r.map λx=>(kS x,ba x):=by rw[zip_map'];rfl
 rw[this];show some (lM _ _,false)=_;rw[sP]
def Mz (e:f ρ=some (.lst ((b::r).map ba),bb)):vw f (uj dA) ρ=some (ba (uo b r),false):=by
 unfold vw Mq;rw[e,vJ];dsimp only;rw[sR,vJ,pJ,vJ,if_pos (CF _)];have:((b::r).map kS).zip ((b::r).map ba)=(kS b,ba b)::r.map λx=>(kS x,ba x):=by rw[zip_map'];rfl
 rw[this];show some (ng _ _,false)=_;rw[sQ]
def iH (rl:Str)(b:Cl)(r:List Cl):Cl:=if rl = "last" then uo b r else nQ b r
def G7 (rl:Str)(b:Cl)(r:List Cl):mw [.lst ((b::r).map ba),.str rl]=sS (iH rl b r).p:=by
 unfold iH;by_cases h:rl = "last"
 ·rw[if_pos h];exact aw rfl (bw (bU (a:=rl) (bb:=false) rfl (Au h)) (ax (bT (ba (uo b r)) (.int 1) (Mz (bb:=false) rfl) rfl (N7 _))))
 ·rw[if_neg h];exact aw rfl (aM (bU (a:=rl) (bb:=false) rfl (Pz h)) (ax (bT (ba (nQ b r)) (.int 1) (G6 (bb:=false) rfl) rfl (N7 _))))
theorem sU:∀(r:List Cl)(b:Cl),nQ b r∈b::r
 |[],b=>by simp[nQ]
 |x::r,b=>by
  rw[nQ];split
  ·exact mZ _ (sU r x)
  ·rcases vP (sU r b)with h|h
   ·rw[h];exact mX
   ·exact mZ _ (mZ _ h)
theorem sV:∀(r:List Cl)(b:Cl),uo b r∈b::r
 |[],b=>by simp[uo]
 |x::r,b=>by
  rw[uo];split
  ·exact mZ _ (sV r x)
  ·rcases vP (sV r b)with h|h
   ·rw[h];exact mX
   ·exact mZ _ (mZ _ h)
def Ea (rl:Str)(b:Cl)(r:List Cl):iH rl b r∈b::r:=by
 unfold iH;split
 ·exact sV r b
 ·exact sU r b
noncomputable def NA (cs:List Cl)(o:Str)(day:Int):List Cl:=cs.filter λc=>decide (c.o=o) && iG c day
def mB (cs:List Cl):LS:=kI (ge (cs.map (·.p)))
def Pf:List Cl->Nat
 |[]=>0
 |b::r=>(nQ b r).n
def pK (rl:Str):List Cl->D
 |[]=>.tup [.str "none"]
 |b::r=>if 1<(mB (b::r)).length/\rl = "open" then .tup [.str "parted",.lst ((mB (b::r)).map .str)]
  else .tup [.str "one",.str (iH rl b r).p,.int (Pf ((b::r).filter λc=>decide (c.p=(iH rl b r).p)))]
def km (cs:List Cl)(o rl:Str)(day:Int):D:=pK rl (NA cs o day)
def Jo {z:Str}:ge (z::zs)≠[]:=by
 have:∀(ss:LS)(G:LS),z∈G->z∈ss.foldl iO G:=λss=>by
  induction ss with
  |nil=>intro G h;exact h
  |cons a l M=>intro G h;exact M _ (qQ.mpr (.inl h))
 have h:=this zs (iO [] z) (qQ.mpr (.inr rfl));intro e;unfold ge at e;rw[foldl_cons]at e;rw[e]at h;cases h
def lm:av [row h ("root" : Str) [.str o,.int m,.int f,.str rl],.str "office"]=sS o:=be (i:=0) cc rfl
def Eb:av [row h ("root" : Str) [.str o,.int m,.int f,.str rl],.str "rule"]=sS rl:=be (i:=3) cc rfl
def sW (zs:LS):ki (zs.map .str)=some zs:=by
 induction zs with
 |nil=>rfl
 |cons z zs G=>simp[G]
def nR (cs:List Cl)(hl:cs.length<=60)(day:Int):eF [.lst (cs.map ba),row h ("root" : Str) [.str o,.int m,.int f,.str rl],.int day]=some (km cs o rl day,false):=by
 let rt:D:=row h ("root" : Str) [.str o,.int m,.int f,.str rl];have h1:=fZ (fi:=bP (am 0)) (nT:=1) (cap:=[2,1]) (tg:=dF 0) (c:=dm (aW (f2 cY (bW 0 0) (fA av (fV 2 (ag (fS "office") aj))))) (aW (fA cN (fV 0 (fV 1 aj))))) (fe:=am 0)
  (ρ:=[sL (cs.map ba),some (rt,false),sI day,none,none,none,none]) cs ba (λc=>decide (c.o=o) && iG c day) ba (by simp) (by omega) λc hc=>by
   refine⟨_,rfl,cJ (dj (bT (.str c.o) (.str o) (bT (ba c) (.int 0) (by simp[dr]) rfl (Pe c)) (aP [rt,.str "office"] (by simp[dr]) lm) (by simp))) λ_=>dj (aP [ba c,.int day] (by simp[dr]) (sM c day)),λ_=>⟨false,by simp[dr]⟩⟩
 have T:bO (bP (am 0)) 1 [2,1] (dF 0) (dm (aW (f2 cY (bW 0 0) (fA av (fV 2 (ag (fS "office") aj))))) (aW (fA cN (fV 0 (fV 1 aj))))) (am 0) [sL (cs.map ba),some (rt,false),sI day,none,none,none,none]=lT ((NA cs o day).map ba):=h1;have Xt:(NA cs o day).length<=60:=vR (vM _ _) hl;unfold km;generalize NA cs o day=al at T Xt;have h2:∀ρ:DL.Env,ρ[3]? = some (lT (al.map ba))->f1 fN (bO (bP (am 3)) 1 [] (dF 0) gF (bW 0 1)) ρ=lT ((mB al).map .str):=λρ h3=>by
  have hc:=rK (fi:=bP (am 3)) (nT:=1) (cap:=[]) (tg:=dF 0) (fe:=bW 0 1) (ρ:=ρ) al ba (λc=>.str c.p) (by simp[h3]) (by omega) λc hc=>⟨_,rfl,false,bT (ba c) (.int 1) (by simp[dr]) rfl (N7 c)⟩;have e2:al.map (λc=>D.str c.p)=(al.map (·.p)).map .str:=by rw[uP];rfl
  rw[e2]at hc;unfold f1;rw[hc,vJ];show(ki ((al.map (·.p)).map .str)).bind _=_;rw[sW,vJ,if_pos (by rw[vI];omega)];rfl
 have Kk:bB ((mB al).map D.str)=true:=gL _;refine aw rfl (cI (ds:=al.map ba) T (jE al) (cI (ds:=(mB al).map .str) (h2 _ rfl) Kk ?_));cases al with
 |nil=>exact bw (dj (by simp[mB,ge,kI])) (ax (aP [.str "none"] rfl (dq _ (by simp))))
 |cons b r=>
  have E6:(mB (b::r)).length≠0:=by
   unfold mB;rw[(eA _).length_eq];intro e;exact Jo (List.length_eq_zero_iff.mp e)
  refine aM (dj (by simp[E6])) ?_;have G:∀ρ:DL.Env,ρ[1]? = some (some (rt,false))->fA av (fV 1 (ag (fS "rule") aj)) ρ=sS rl:=λρ q1=>aP [rt,.str "rule"] (by simp[q1]) Eb;by_cases hp:1<(mB (b::r)).length/\rl = "open"
  ·have:pK rl (b::r)=.tup [.str "parted",.lst ((mB (b::r)).map .str)]:=by rw[pK,if_pos hp]
   rw[this];exact bw (cJ (p:=true) (q:=true) (dj (by simp;omega)) λ_=>bU (bb:=false) (G _ rfl) (Au hp.2)) (ax (aP [.str "parted",.lst ((mB (b::r)).map .str)] (by simp) (dq _ (by simp))))
  ·have:pK rl (b::r)=.tup [.str "one",.str (iH rl b r).p,.int (Pf ((b::r).filter λc=>decide (c.p=(iH rl b r).p)))]:=by rw[pK,if_neg hp]
   rw[this];have M:dm (aW (f2 Hz (fA eO (fV 4 aj)) (fI 1))) (aW (f2 cY (fA av (fV 1 (ag (fS "rule") aj))) (fS "open"))) [sL (cs.map ba),some (rt,false),sI day,lT ((b::r).map ba),lT ((mB (b::r)).map .str),none,none]=some false:=by
    by_cases h5:1<(mB (b::r)).length
    ·exact cJ (p:=true) (q:=false) (dj (by simp;omega)) λ_=>bU (bb:=false) (G _ rfl) (Pz λe=>hp ⟨h5,e⟩)
    ·exact cJ (p:=false) (q:=false) (dj (by simp;omega)) (by simp)
   have U:=Ea rl b r;let ch:=iH rl b r;have h6:=fZ (fi:=bP (am 3)) (nT:=1) (cap:=[5]) (tg:=dF 0) (c:=aW (f2 cY (bW 0 1) (am 1))) (fe:=am 0) (ρ:=[sL (cs.map ba),some (rt,false),sI day,lT ((b::r).map ba),lT ((mB (b::r)).map .str),sS ch.p,none]) (b::r) ba (λc=>decide (c.p=ch.p)) ba (by simp) (by omega) λc hc=>⟨_,rfl,dj (bT (.str c.p) (.str ch.p) (bT (ba c) (.int 1) (by simp[dr]) rfl (N7 c)) (by simp[dr]) (by simp)),λ_=>⟨false,by simp[dr]⟩⟩;obtain⟨b2,O,hf⟩:∃b2 O,(b::r).filter (λc=>decide (c.p=ch.p))=b2::O:=by
    cases hq:(b::r).filter (λc=>decide (c.p=ch.p)) with
    |nil=>
     have:=List.filter_eq_nil_iff.mp hq _ U;simp[ch]at this
    |cons b2 O=>exact⟨b2,O,rfl⟩
   rw[hf]at h6 ⊢;refine aM M (iz (.str ch.p) (aP [.lst ((b::r).map ba),.str rl] (cy (by simp) (aN (G _ rfl) rfl)) (G7 rl b r)) rfl (iz (ba (nQ b2 O)) (G6 (bb:=true) h6) (nO _) (ax (aP [.str "one",.str ch.p,.int (nQ b2 O).n] (cy rfl (cy rfl (aN (bT (ba (nQ b2 O)) (.int 4) rfl rfl (Qy _)) rfl))) (dq _ (by simp))))))
def KH:D->D
 |.tup ds=>.tup (lI ds none (some 2))
 |d=>d
def iI (cs:List Cl)(o rl p:Str)(day:Int):Bool:=cQ (KH (km cs o rl day)) (.tup [.str "one",.str p])
def Bt (n:Nat)(zs:LS):(zs.map D.str).all (aQ n)=true:=by
 induction zs with
 |nil=>rfl
 |cons a l G=>simp
def Ec (rl:Str)(G:List Cl):∃ds,pK rl G=.tup ds/\ds.all (aQ 5)=true:=by
 cases G with
 |nil=>exact⟨_,rfl,by simp⟩
 |cons b r=>
  rw[pK];split
  ·exact⟨_,rfl,by simp only[all_cons,all_nil,aQ,Bool.and_true,Bool.true_and];exact Bt _ _⟩
  ·exact⟨_,rfl,by simp⟩
def G8 (h:ds.all (aQ 5)=true):(lI ds lo hi).all (aQ 5)=true:=by
 rw[all_eq_true]at h ⊢;exact λd hd=>h d (List.mem_of_mem_drop (List.mem_of_mem_take hd))
def wy (h:ds.all (aQ 5)=true):aQ 40 (.tup ds)=true:=jW 6 40 _ (by decide) (by simpa only[aQ]using h)
def xW (cs:List Cl)(hl:cs.length<=60)(p:Str)(day:Int):cK [.lst (cs.map ba),row h ("root" : Str) [.str o,.int m,.int f,.str rl],.str p,.int day]=sO (iI cs o rl p day):=by
 have hb:=nR cs hl (h:=h) (o:=o) (rl:=rl) (m:=m) (f:=f) day;obtain⟨ds,e,hd⟩:=Ec rl (NA cs o day);have G:km cs o rl day=.tup ds:=e;refine aw rfl (ax (bT (KH (km cs o rl day)) (.tup [.str "one",.str p]) ?_ (by simp[sizeLine]) ?_))
 ·have hc:=bA (F:=eF) (fa:=fV 0 (fV 1 (fV 3 aj))) (ρ:=[sL (cs.map ba),some (row h ("root" : Str) [.str o,.int m,.int f,.str rl],false),sS p,sI day]) (ds:=[.lst (cs.map ba),row h ("root" : Str) [.str o,.int m,.int f,.str rl],.int day]) rfl hb;rw[G]at hc ⊢;show yi (fA eF (fV 0 (fV 1 (fV 3 aj)))) ii (eY (fI 2)) _=_;unfold yi;rw[show(List.map (λd=>some (d,false)) [D.lst (cs.map ba),row h ("root" : Str) [.str o,.int m,.int f,.str rl],.str p,.int day]++List.replicate 0 none:DL.Env)=[sL (cs.map ba),some (row h ("root" : Str) [.str o,.int m,.int f,.str rl],false),sS p,sI day]from rfl,hc];rfl
 ·unfold iI cY;rw[if_pos];rw[G];exact⟨wy (G8 hd),wy (by simp)⟩
noncomputable def a8 (j:Nat):D->Str
 |.tup [_,.tup (_::ay)]=>match ay[j]? with
  |some (.str s)=>s
  |_=>("" : Str)
 |_=>("" : Str)
noncomputable def gN (j:Nat):D->Int
 |.tup [_,.tup (_::ay)]=>match ay[j]? with
  |some (.int s)=>s
  |_=>0
 |_=>0
def Cd.root_of (h:Cd ("root" : Str) r):∃o rl,∃m f:Int,r=[.str o,.int m,.int f,.str rl]:=by
 generalize hk:("root" : Str)=k at h;cases h with
 |root o rl m f=>exact⟨o,rl,m,f,rfl⟩
 |named=>exact dP hk
 |chosen=>exact dP hk
 |heir=>exact dP hk
 |three _ hh=>rcases hh with rfl|rfl|rfl<;>exact dP hk
 |other _ hh=>rcases hh with rfl|rfl|rfl|rfl|rfl<;>exact dP hk
def wz {κ α:Type}[DecidableEq κ]{ks:List κ}{k:κ}{x y:α}:∀ {xs:List α},y∈dO ks xs k x->y=x∨y∈xs:=by
 intro xs h;unfold dO at h;split at h
 ·rename_i G;clear G;induction ks generalizing xs with
  |nil=>simp at h
  |cons a ks M=>
   cases xs with
   |nil=>simp at h
   |cons b xs=>
    rw[zipWith_cons_cons,mem_cons]at h;rcases h with h|h
    ·split at h
     ·exact .inl h
     ·exact .inr (by rw[h];exact mX)
    ·rcases M h with h|h
     ·exact .inl h
     ·exact .inr (mZ _ h)
 ·rcases mem_append.mp h with h|h
  ·exact .inr h
  ·exact .inl (uT h)
theorem w4:∀(l:List (eQ×D))(a:LK×LD)(y:D),y∈(l.foldl ri a).2->y∈a.2∨∃p∈l,p.2=y
 |[],a,y,h=>.inl h
 |p::l,a,y,h=>by
  rw[foldl_cons]at h;rcases w4 l _ y h with h|⟨q,hq,e⟩
  ·rcases wz (show y∈dO a.1 a.2 p.1 p.2 from h)with h|h
   ·exact .inr ⟨p,mX,h.symm⟩
   ·exact .inl h
  ·exact .inr ⟨q,mZ _ hq,e⟩
theorem wA {α:Type}(f:α->Str)(g:α->D):∀(l:List α),jj (l.map λx=>D.tup [.str (f x),g x])=some (l.map λx=>(.inr (f x),g x))
 |[]=>rfl
 |x::l=>by
  rw[uY,jj,wA f g l];rfl
theorem sX {κ:Type}[DecidableEq κ]:∀ {ks:List κ}{vs:LD}{k:κ}{v:D},cH ks vs k=some v->v∈vs
 |k'::ks,d::ds,k,v,h=>by
  unfold cH at h;split at h
  ·cases h;exact mX
  ·exact mZ _ (sX h)
 |[],_,_,_,h=>by simp[cH]at h
 |_::_,[],_,_,h=>by simp[cH]at h
noncomputable def nU (KL:List (D×Nat)):List (eQ×D):=(KL.filter λx=>bj x.1).map λx=>(.inr (a8 0 x.1),x.1)
def CG (KL:List (D×Nat))(o:Str):Option D:=cH (cb (nU KL)).1 (cb (nU KL)).2 (.inr o)
def sY (g:xT r)(h:bj r=true):∃a o rl,∃m f:Int,r=row a ("root" : Str) [.str o,.int m,.int f,.str rl]:=by
 obtain⟨a,k,ay,rfl,d⟩:=g;have hk:k = "root":=RV h;subst hk;obtain⟨o,rl,m,f,rfl⟩:=d.root_of;exact⟨a,o,rl,m,f,rfl⟩
def dI (g:gM af)(hx:x∈au af ae):oR af (x.2:Int)=some x.1/\xT x.1:=⟨cf (b9 hx),g.2 _ (vL (b9 hx))⟩
def zL (g:gM af)(h:CG (au af ae) o=some v):∃a G rl,∃m f:Int,v=row a ("root" : Str) [.str G,.int m,.int f,.str rl]:=by
 have hv:=sX h;rcases w4 _ ([],[]) v hv with h|⟨p,hp,e⟩
 ·cases h
 ·obtain⟨x,hx,rfl⟩:=vO hp;obtain⟨h1,h2⟩:=vN hx;rw[←e];exact sY (dI g h1).2 h2
def sZ (g:gM af)(ae:Int):gE [.tup af,.int ae]=sF (.dk (cb (nU (au af ae))).1 (cb (nU (au af ae))).2):=by
 have hl:=c6 af ae;have M:=g.1;have h1:=rK (fi:=bP (fA cE (fV 0 (fV 1 aj)))) (nT:=1) (cap:=[0]) (tg:=dF 0) (fe:=f2 bH (am 1) (am 0)) (ρ:=[sT af,sI ae,none]) (au af ae) (λx=>.int x.2) Prod.fst
  (by
   show(fA cE (fV 0 (fV 1 aj)) _).bind _=_;rw[aP [.tup af,.int ae] rfl (lg af g.rp g.le ae)];rfl) (by omega) λx hx=>by
   have ha:=(dI g hx).1;exact⟨_,rfl,false,by simp[dr,ha]⟩
 have hn:bB ((au af ae).map Prod.fst)=true:=ce λd hd=>by
  obtain⟨x,hx,rfl⟩:=vO hd;exact(dI g hx).2.rp.flat
 have h2:=fZ (fi:=bP (am 2)) (nT:=1) (cap:=[]) (tg:=dF 0) (c:=aW (f2 cY (fA aD (fV 0 aj)) (fS "root"))) (fe:=fA bi (ag (fA av (fV 0 (ag (fS "office") aj))) (fV 0 aj)))
  (ρ:=[sT af,sI ae,lT ((au af ae).map Prod.fst)]) (au af ae) Prod.fst (λx=>bj x.1) (λx=>.tup [.str (a8 0 x.1),x.1]) (by simp) (by omega) λx hx=>by
   have G:=(dI g hx).2;refine⟨_,rfl,bU (a:=kindOf x.1) (bb:=false) (aP [x.1] rfl (jq G)) rfl,λhp=>⟨false,?_⟩⟩;obtain⟨a,o,rl,m,f,e⟩:=sY G hp;refine aP [.str (a8 0 x.1),x.1] (cy (aP [x.1,.str "office"] rfl ?_) rfl) (dq _ (by simp));rw[e];exact lm
 refine aw rfl (cI (ds:=(au af ae).map Prod.fst) h1 hn (ax (aP [.lst (((au af ae).filter λx:D×Nat=>bj x.1).map λx:D×Nat=>D.tup [.str (a8 0 x.1),x.1])] (aN h2 rfl) ?_)));rw[jS,wA (λx:D×Nat=>a8 0 x.1) Prod.fst];rfl
def pW:D×Nat->List (D×Nat)->D×Nat
 |b,[]=>b
 |b,x::r=>if bp (kA x) (kA b)=some true then pW x r else pW b r
theorem xX:∀(r:List (D×Nat))(b:D×Nat),lM (kA b,.int b.2) (r.map λx=>(kA x,D.int x.2))=.int (pW b r).2
 |[],b=>rfl
 |x::r,b=>by
  rw[uY,lM,pW];split
  ·exact xX r x
  ·exact xX r b
def iJ (KL:List (D×Nat))(p:Str)(day:Int)(i:Nat):Bool:=match KL.filter (λx=>told eJ p day x.1) with
 |[]=>false
 |b::r=>decide ((pW b r).2=i)
def G9 (g:gM af)(ae:Int)(hx:x∈au af ae)(e:x.1=row a ("death" : Str) [.int d,.str p]):gs [.tup af,.int ae,.int x.2]=sO (iJ (au af ae) p d x.2):=by
 have ha:=(dI g hx).1;have gx:=(dI g hx).2;have ht:=xR af g.rp g.le ae eJ jX p d;have M:av [x.1,.str "person"]=sS p:=by rw[e];exact be (i:=1) cc rfl
 have O:aR [x.1]=sI d:=by rw[e];exact jD (.inl (by decide +kernel)) rfl
 have G:x∈pV af ae eJ p d:=mem_filter.mpr ⟨hx,by rw[e];simp[told,row,eJ,wx]⟩;have Xu:iJ (au af ae) p d x.2=match pV af ae eJ p d with|[]=>false|b::r=>decide ((pW b r).2=x.2):=rfl
 have T:∀y∈pV af ae eJ p d,∃h k dd,af[y.2]? = some (row h k [.int dd,.str p])/\y.1=row h k [.int dd,.str p]/\cU k=true:=λy hy=>by
  obtain⟨U,SF⟩:=CB hy;obtain⟨h,k,dd,e2,h3,_⟩:=sE jX (g.rp _ (vL U)) SF;exact⟨h,k,dd,by rw[U,e2],e2,h3⟩
 rw[Xu];cases hs:pV af ae eJ p d with
 |nil=>rw[hs]at G;cases G
 |cons b r=>
  rw[hs]at ht T;have hm:∀ρ:DL.Env,ρ[0]? = some (sT af)->j7 (rd [0] (fA fE (fV 1 (fV 0 aj))) ρ) ((b::r).map λy=>.int y.2)=some ((b::r).map λy=>.tup [.int (aF y.1),.int y.2]):=λρ h0=>
   iF (b::r) λy hy=>by
    obtain⟨h,k,dd,U,e2,h3⟩:=T y hy;show(fA fE _ _).map _=_;rw[aP [.tup af,.int y.2] (by simp[dr,h0]) (CC U h3),e2];rfl
  have hk:dM ((b::r).map λy=>D.tup [.int (aF y.1),.int y.2])=some ((b::r).map kA):=ia _ λy _=>rfl;have hz:((b::r).map kA).zip ((b::r).map λy=>D.int y.2)=(kA b,D.int b.2)::r.map λy=>(kA y,D.int y.2):=by rw[zip_map'];rfl
  have Ng:bB ((b::r).map λy=>D.int y.2)=true:=ce λd hd=>by obtain⟨y,_,rfl⟩:=vO hd;rfl
  refine aw rfl (iz x.1 (by simp[ha]) gx.rp.flat (cI (ds:=(b::r).map λy=>.int y.2) (aP [.tup af,.int ae,.tup (eJ.map .str),.str p,.int d] (cy rfl (cy rfl (cy (aP [.str "death"] rfl (dq _ (by simp))) (aN (aP [x.1,.str "person"] rfl M) (aN (aP [x.1] rfl O) rfl))))) ht) Ng (ax (bT (.int (pW b r).2) (.int x.2) ?_ rfl ?_))))
  ·unfold vx Mq;show((some (D.lst ((b::r).map λy=>D.int y.2),false)).bind _)=_;rw[vJ];dsimp only;rw[hm _ rfl,vJ,hk,vJ,if_pos (xS _),hz];show some (lM _ _,false)=_;rw[xX]
  ·rw[Cz];congr 3;apply decide_eq_decide.mpr;omega
abbrev KL:=List (D×Nat)
noncomputable def tj (K:KL)(p:Str)(day:Int):Bool:=(K.filter λx=>told eJ p day x.1).isEmpty
def Pg (K:KL)(p:Str)(day:Int):Bool:=match KG (K.filter λx=>told nN p day x.1) with
 |none=>true
 |some x=>decide (kindOf x.1 = "found")
def xY (K:KL)(r:D):Bool:=eI (kindOf r) && (tj K (cR r) (aF r) && Pg K (cR r) (aF r))
def GA (r:D):Str:=if kindOf r = "named" then a8 1 r else a8 2 r
noncomputable def xZ:LS:=[("named" : Str),"chosen","heir"]
def cL (K:KL)(G:List Cl)(x:D×Nat):Bool :=
 if kindOf x.1 = "death" then iJ K (a8 1 x.1) (aF x.1) x.2
 else if kindOf x.1∈xZ then match CG K (GA x.1) with
  |none=>false
  |some v=>if kindOf x.1 = "named" then true else xY K x.1 && iI G (a8 0 v) (a8 3 v) (a8 1 x.1) (aF x.1)
 else false
def Jp (af:LD)(ae:Int)(p:Str)(day:Int):oE af ae p day=tj (au af ae) p day:=rfl
def Jq (h:bo r<=ae):jp af ae r=xY (au af ae) r:=by
 unfold jp xY;rw[Au h,Bool.true_and];rfl
def Ed (g:gM af)(ae:Int)(G:List Cl)(Qh:G.length<=60)(hx:x∈au af ae)(O:bj x.1=false):nF [.tup af,.int ae,.lst (G.map ba),.int x.2]=sO (cL (au af ae) G x):=by
 obtain⟨ha,U⟩:=dI g hx;have hh:bo x.1<=ae:=RV (vN hx).2;have hf:b8 x.1=true:=U.rp.flat;have hw:∀ρ:DL.Env,ρ[4]? = some (some (x.1,false))->fA aD (fV 4 aj) ρ=sS (kindOf x.1):=λρ h4=>aP [x.1] (by simp[h4]) (jq U);have M:∀ρ:DL.Env,ρ[4]? = some (some (x.1,false))->aW (f2 dZ (fA aD (fV 4 aj)) (fA bi (ag (fS "named") (ag (fS "chosen") (ag (fS "heir") aj))))) ρ=some (!decide (kindOf x.1∈xZ)):=λρ h4=>
  dj (bT (.str (kindOf x.1)) (.tup (xZ.map .str)) (hw ρ h4) (by simp[sizeLine,xZ]) (pG _ _))
 by_cases hd:kindOf x.1 = "death"
 ·obtain⟨a,k,ay,e,d⟩:=U;have hk:k = "death":=by rw[e]at hd;exact hd
  subst hk;obtain⟨dd,p,rfl⟩:=d.deed.three (by decide +kernel);have hc:cL (au af ae) G x=iJ (au af ae) p dd x.2:=by
   unfold cL;rw[if_pos hd,e];rfl
  rw[hc];exact aw rfl (iz x.1 (by simp[ha]) hf (bw (bU (bb:=false) (hw _ rfl) (Au hd)) (ax (aP [.tup af,.int ae,.int x.2] rfl (G9 g ae hx e)))))
 ·by_cases h3:kindOf x.1∈xZ
  ·have SG:av [x.1,.str "office"]=sS (GA x.1):=by
    obtain⟨a,k,ay,e,d⟩:=U;rw[e]at h3 hd O ⊢;replace h3:k∈xZ:=h3;clear hd O;cases d with
    |root=>exact dP h3
    |named d o p=>exact be (i:=1) cc rfl
    |chosen d b o p s=>exact be (i:=2) cc rfl
    |heir d b o p=>exact be (i:=2) cc rfl
    |three _ hk=>rcases hk with rfl|rfl|rfl<;>exact dP h3
    |other _ hk=>rcases hk with rfl|rfl|rfl|rfl|rfl<;>exact dP h3
   have e5:∀ρ:DL.Env,ρ[0]? = some (sT af)->ρ[1]? = some (sI ae)->ρ[4]? = some (some (x.1,false))->f2 FZ (fA gE (fV 0 (fV 1 aj))) (fA av (fV 4 (ag (fS "office") aj))) ρ=some ((CG (au af ae) (GA x.1)).getD .non,false):=λρ q0 q1 q4=>
    bT (.dk (cb (nU (au af ae))).1 (cb (nU (au af ae))).2) (.str (GA x.1)) (aP [.tup af,.int ae] (by simp[q0,q1]) (sZ g ae)) (aP [x.1,.str "office"] (by simp[q4]) SG) rfl
   cases hr:CG (au af ae) (GA x.1) with
   |none=>
    rw[hr]at e5;have hc:cL (au af ae) G x=false:=by unfold cL;rw[if_neg hd,if_pos h3,hr]
    rw[hc];exact aw rfl (iz x.1 (by simp[ha]) hf (aM (bU (bb:=false) (hw _ rfl) (Pz hd)) (aM (by rw[M _ rfl,Au h3];rfl) (iz .non (e5 _ rfl rfl rfl) rfl (bw (dj (bT .non .non rfl rfl (by simp))) (ax rfl))))))
   |some v=>
    rw[hr]at e5;obtain⟨va,vo,XT,vm,vf,ev⟩:=zL g hr;have UB:b8 v=true:=by rw[ev];rfl
    have UC:qJ v .non=sO false:=by rw[ev];simp[row]
    by_cases hn:kindOf x.1 = "named"
    ·have hc:cL (au af ae) G x=true:=by unfold cL;rw[if_neg hd,if_pos h3,hr];dsimp only;rw[if_pos hn]
     rw[hc];exact aw rfl (iz x.1 (by simp[ha]) hf (aM (bU (bb:=false) (hw _ rfl) (Pz hd)) (aM (by rw[M _ rfl,Au h3];rfl) (iz v (e5 _ rfl rfl rfl) UB (aM (dj (bT v .non rfl rfl UC)) (bw (bU (bb:=false) (hw _ rfl) (Au hn)) (ax rfl)))))))
    ·have hc:cL (au af ae) G x=(xY (au af ae) x.1 && iI G (a8 0 v) (a8 3 v) (a8 1 x.1) (aF x.1)):=by unfold cL;rw[if_neg hd,if_pos h3,hr];dsimp only;rw[if_neg hn]
     have UD:av [x.1,.str "by"]=sS (a8 1 x.1)/\aR [x.1]=sI (aF x.1):=by
      refine⟨?_,by rw[sK U];unfold um;rw[O];rfl⟩;obtain⟨a,k,ay,e,d⟩:=U;rw[e]at h3 hn ⊢;replace h3:k∈xZ:=h3;cases d with
      |root=>exact dP h3
      |named=>exact absurd rfl hn
      |chosen d b o p s=>exact be (i:=1) cc rfl
      |heir d b o p=>exact be (i:=1) cc rfl
      |three _ hk=>rcases hk with rfl|rfl|rfl<;>exact dP h3
      |other _ hk=>rcases hk with rfl|rfl|rfl|rfl|rfl<;>exact dP h3
     have hs:=sJ af g.rp g.le ae (b9 hx);rw[Jq hh]at hs;have T:cK [.lst (G.map ba),v,.str (a8 1 x.1),.int (aF x.1)]=sO (iI G (a8 0 v) (a8 3 v) (a8 1 x.1) (aF x.1)):=by
      rw[ev];exact xW G Qh _ _
     rw[hc];refine aw rfl (iz x.1 (by simp[ha]) hf (aM (bU (bb:=false) (hw _ rfl) (Pz hd)) (aM (by rw[M _ rfl,Au h3];rfl) (iz v (e5 _ rfl rfl rfl) UB (aM (dj (bT v .non rfl rfl UC)) (aM (bU (bb:=false) (hw _ rfl) (Pz hn)) (ax ?_)))))));exact dc (b1:=false) (aP [.tup af,.int ae,.int x.2] rfl hs) λ_=>aP [.lst (G.map ba),v,.str (a8 1 x.1),.int (aF x.1)] (cy rfl (cy rfl (aN (aP [x.1,.str "by"] rfl UD.1) (aN (aP [x.1] rfl UD.2) rfl)))) T
  ·have hc:cL (au af ae) G x=false:=by unfold cL;rw[if_neg hd,if_neg h3]
   rw[hc];exact aw rfl (iz x.1 (by simp[ha]) hf (aM (bU (bb:=false) (hw _ rfl) (Pz hd)) (bw (by rw[M _ rfl,Pz h3];rfl) (ax rfl))))
def gz (G:LS)(p:Str)(day:Int)(c:Cl):List Cl :=
 if(!decide (c.o∈G) || (!decide (c.p=p) || !(iG c day || decide (day<c.s))))=true then [c]else if c.s<day then [⟨c.o,p,c.s,some day,c.n⟩]else []
noncomputable def ci (M:List Cl)(G:LS)(p:Str)(day:Int):List Cl:=M.flatMap (gz G p day)
theorem g9 (G:LS)(p:Str)(day:Int):∀M:List Cl,(ci M G p day).length<=M.length
 |[]=>vT _
 |c::M=>by
  unfold ci;rw[flatMap_cons,uZ,vE];have h1:=g9 G p day M;have h2:(gz G p day c).length<=1:=by
   unfold gz;split
   ·simp
   ·split<;>simp
  unfold ci at h1;omega
def Bu (k:Str)(G:LS):dZ (.str k) (.lst (G.map .str))=sO (!decide (k∈G)):=by
 simp only[dZ,fY,vJ,nL];rw[if_pos ⟨rfl,lE G⟩]
def zM (M:List Cl)(Qh:M.length<=60)(G:LS)(p:Str)(day:Int):qm [.lst (M.map ba),.lst (G.map .str),.str p,.int day]=lT ((ci M G p day).map ba):=by
 obtain⟨ρ',e,v5,rfl⟩:=fg (tg:=dF 5) (g:=sd) (λj ρ=>∃v5:OB,ρ=[sL (M.map ba),sL (G.map .str),sS p,sI day,lT ((ci (M.take j) G p day).map ba),v5]) (M.map ba)
  [sL (M.map ba),sL (G.map .str),sS p,sI day,lT [],none] ⟨none,rfl⟩ (by
   rintro j d ρ hd ⟨v5,rfl⟩;rw[vA]at hd;obtain⟨c,hc,rfl⟩:=oY hd;have hj:j<M.length:=(vV hc).1;have et:ci (M.take (j+1)) G p day=ci (M.take j) G p day++gz G p day c:=by
    unfold ci;rw[take_add_one,hc,toList_some,List.flatMap_append,flatMap_cons,List.flatMap_nil,uQ]
   have lq:(ci (M.take j) G p day).length<=60:=vR (g9 G p day _) (by rw[length_take];omega);let T:DL.Env:=[sL (M.map ba),sL (G.map .str),sS p,sI day,lT ((ci (M.take j) G p day).map ba),some (ba c,false)];have q0:bW 5 0 T=sS c.o:=bT (ba c) (.int 0) rfl rfl (Pe c);have q1:bW 5 1 T=sS c.p:=bT (ba c) (.int 1) rfl rfl (N7 c);have q2:bW 5 2 T=sI c.s:=bT (ba c) (.int 2) rfl rfl (Qx c);have q4:bW 5 4 T=sI c.n:=bT (ba c) (.int 4) rfl rfl (Qy c);have O:dR (aW (f2 dZ (bW 5 0) (am 1))) (dR (aW (f2 xn (bW 5 1) (am 2))) (cx (dR (aW (fA cN (fV 5 (fV 3 aj)))) (aW (f2 Hz (bW 5 2) (am 3)))))) T=some (!decide (c.o∈G) || (!decide (c.p=p) || !(iG c day || decide (day<c.s)))) :=
    de (dj (bT (.str c.o) (.lst (G.map .str)) q0 rfl (Bu _ _))) λ_=>de (dj (bT (.str c.p) (.str p) q1 rfl (by simp))) λ_=>ca (de (dj (aP [ba c,.int day] rfl (sM c day))) λ_=>dj (bT (.int c.s) (.int day) q2 rfl (by simp)))
   by_cases h1:(!decide (c.o∈G) || (!decide (c.p=p) || !(iG c day || decide (day<c.s))))=true
   ·have U:gz G p day c=[c]:=by unfold gz;rw[if_pos h1]
    rw[h1]at O;refine⟨_,_,rfl,.inl (rG O (rH (ds:=(ci (M.take j) G p day).map ba) (d:=ba c) (b:=false) rfl rfl (nO c) (dz (by simp;omega)))),some (ba c,false),?_⟩;rw[et,U,uW];rfl
   ·rw[Bool.not_eq_true]at h1;rw[h1]at O;by_cases h2:c.s<day
    ·have U:gz G p day c=[⟨c.o,p,c.s,some day,c.n⟩]:=by unfold gz;rw[if_neg (by rw[h1];decide),if_pos h2]
     refine⟨_,_,rfl,.inl (ms O (rG (dj (bT (.int c.s) (.int day) q2 rfl (by simp[h2]))) (rH (ds:=(ci (M.take j) G p day).map ba) (d:=ba ⟨c.o,p,c.s,some day,c.n⟩) (b:=false) rfl (aP [.str c.o,.str p,.int c.s,.int day,.int c.n] (aN q0 (cy rfl (aN q2 (cy rfl (aN q4 rfl))))) (dq _ (by simp))) (nO _) (dz (by simp;omega))))),some (ba c,false),?_⟩;rw[et,U,uW];rfl
    ·have U:gz G p day c=[]:=by unfold gz;rw[if_neg (by rw[h1];decide),if_neg h2]
     refine⟨_,_,rfl,.inl (ms O (ms (dj (bT (.int c.s) (.int day) q2 rfl (by simp;omega))) rfl)),some (ba c,false),?_⟩;rw[et,U,uQ];rfl)
 have e':j0 (dF 5) sd (M.map ba) [sL (M.map ba),sL (G.map .str),sS p,sI day,lT [],none]=some (.nx [sL (M.map ba),sL (G.map .str),sS p,sI day,lT ((ci M G p day).map ba),v5]):=by
  rw[e];have:M.take (M.map ba).length=M:=by rw[vI,take_length]
  rw[this]
 exact aw rfl (cI (ds:=[]) (by simp[sizeLine]) rfl (fj (gZ (ds:=M.map ba) (by simp[jz]) e') (l5 rfl)))
def KI (G:av [r,.str "office"]=sS o)(hp:av [r,.str "person"]=sS p)(s:Int)(n:Nat):gK [r,.int s,.int n]=some (ba ⟨o,p,s,none,n⟩,false) :=
 aw rfl (ax (aP [.str o,.str p,.int s,.non,.int n] (aN (aP [r,.str "office"] rfl G) (aN (aP [r,.str "person"] rfl hp) rfl)) (dq _ (by simp))))
def Ee (G:List Cl)(M:G.length<=60)(n:Nat):iC [.lst (G.map ba),row a ("chosen" : Str) [.int d,.str b,.str o,.str p,.int s],.int n]=lT ((ci G [o] b s++[(⟨o,p,s,none,n⟩:Cl)]).map ba):=by
 let r:D:=row a ("chosen" : Str) [.int d,.str b,.str o,.str p,.int s];have O:av [r,.str "office"]=sS o:=be (i:=2) cc rfl;have hp:av [r,.str "person"]=sS p:=be (i:=3) cc rfl;have hb:av [r,.str "by"]=sS b:=be (i:=1) cc rfl;have hs:av [r,.str "since"]=sI s:=be (i:=4) cc rfl;have hl:=g9 [o] b s G;refine aw rfl (iz (.int s) (aP [r,.str "since"] rfl hs) rfl (cI (ds:=(ci G [o] b s).map ba) (aP [.lst (G.map ba),.lst ([o].map .str),.str b,.int s] (cy rfl (aN (b:=true) (aP [.str o] (aN (aP [r,.str "office"] rfl O) rfl) (fH _ (by simp))) (aN (aP [r,.str "by"] rfl hb) rfl))) (zM G M [o] b s)) (jE _) (ax ?_)));refine cm (x:=.lst ((ci G [o] b s).map ba)) (y:=.lst [ba ⟨o,p,s,none,n⟩]) (b1:=false) (b2:=true) rfl (aP [ba ⟨o,p,s,none,n⟩] (aN (aP [r,.int s,.int n] rfl (KI O hp s n)) rfl) (fH _ (by simp))) ?_;rw[uW];exact if_pos (eB (by rw[vI,length_singleton];omega))
noncomputable def zN (hk:List LK)(hv:LD)(o p:Str):Option Str:=match cH hk hv [.inr o,.inr p] with
 |some (.str h)=>some h
 |_=>none
def eK (K:KL)(hk:List LK)(hv:LD)(p:Str)(day:Int)(n:Nat)(o:Str):List Cl:=match zN hk hv o p with
 |some h=>if tj K h day=true then [⟨o,h,day,none,n⟩]else []
 |none=>[]
def dD (G:List Cl)(p:Str)(day:Int):LS:=kI (ge ((G.filter λc=>decide (c.p=p) && iG c day).map (·.o)))
def tm (K:KL)(G:List Cl)(hk:List LK)(hv:LD)(p:Str)(day:Int)(n:Nat):List Cl:=(dD G p day).flatMap (eK K hk hv p day n)
def mC (K:KL)(hk:List LK)(hv:LD)(p:Str)(day:Int)(n:Nat)(o:Str):(eK K hk hv p day n o).length<=1:=by
 unfold eK;split
 ·split<;>simp
 ·simp
theorem tq {α G:Type}(f:α->List G)(h:∀a,(f a).length<=1):∀l:List α,(l.flatMap f).length<=l.length
 |[]=>vT _
 |a::l=>by
  rw[flatMap_cons,uZ,vE];have:=h a;have:=tq f h l;omega
def zO (G:List Cl)(p:Str)(day:Int):(dD G p day).length<=G.length:=by
 unfold dD;rw[(eA _).length_eq];refine vR (mT _) ?_;rw[vI];exact vM _ _
def ya (g:gM af)(ae:Int)(G:List Cl)(Qh:G.length<=60)(hk:List LK)(hv:LD)(Xv:∀v∈hv,∃s,v=.str s)(hx:x∈au af ae)(e:x.1=row a ("death" : Str) [.int d,.str p]):
  kY [.tup af,.int ae,.lst (G.map ba),.dt hk hv,.int x.2]=lT ((tm (au af ae) G hk hv p d x.2).map ba):=by
 have ha:=(dI g hx).1;have Qi:av [x.1,.str "person"]=sS p:=by rw[e];exact be (i:=1) cc rfl
 have Ni:aR [x.1]=sI d:=by rw[e];exact jD (.inl (by decide +kernel)) rfl
 have UE:=zO G p d;have Qj:∀(o:Str)(l:List Cl)(O:OB),l.length<=60->h8 [sT af,sI ae,sL (G.map ba),sF (.dt hk hv),sI x.2,sS p,sI d,lT (l.map ba),sS o,O]=some (.nx [sT af,sI ae,sL (G.map ba),sF (.dt hk hv),sI x.2,sS p,sI d,lT ((l++eK (au af ae) hk hv p d x.2 o).map ba),sS o,some ((cH hk hv [.inr o,.inr p]).getD .non,false)]):=λo l O hl=>by
  have eg:Gn (am 3) (fV 8 (fV 5 aj)) [sT af,sI ae,sL (G.map ba),sF (.dt hk hv),sI x.2,sS p,sI d,lT (l.map ba),sS o,O]=some ((cH hk hv [.inr o,.inr p]).getD .non,false):=by
   simp[iV,sizeLine]
  cases M:cH hk hv [.inr o,.inr p] with
  |none=>
   rw[M]at eg;have ei:eK (au af ae) hk hv p d x.2 o=[]:=by unfold eK zN;rw[M]
   rw[ei,uQ];exact iz .non eg rfl (ms (cJ (p:=false) (q:=false) (dj (by simp)) (by simp)) rfl)
  |some v=>
   obtain⟨h,rfl⟩:=Xv v (sX M);rw[M]at eg;have SH:=zI af g.rp g.le ae h d;rw[Jp]at SH;have U:∀ρ:DL.Env,ρ[0]? = some (sT af)->ρ[1]? = some (sI ae)->ρ[6]? = some (sI d)->ρ[9]? = some (sS h)->dm (aW (f2 gP (am 9) (fC .non))) (aW (fA nD (fV 0 (fV 1 (fV 9 (fV 6 aj)))))) ρ=some (true && tj (au af ae) h d):=λρ q0 q1 q6 q9=>
    cJ (dj (by simp[q9])) λ_=>dj (aP [.tup af,.int ae,.str h,.int d] (by simp[q0,q1,q6,q9]) SH)
   cases T:tj (au af ae) h d with
   |false=>
    have ei:eK (au af ae) hk hv p d x.2 o=[]:=by unfold eK zN;rw[M];dsimp only;rw[T];rfl
    rw[ei,uQ];exact iz (.str h) eg rfl (ms (by rw[U _ rfl rfl rfl rfl,T];rfl) rfl)
   |true=>
    have ei:eK (au af ae) hk hv p d x.2 o=[⟨o,h,d,none,x.2⟩]:=by unfold eK zN;rw[M];dsimp only;rw[T];rfl
    rw[ei,uW];exact iz (.str h) eg rfl (rG (by rw[U _ rfl rfl rfl rfl,T];rfl) (rH (ds:=l.map ba) (d:=ba ⟨o,h,d,none,x.2⟩) (b:=false) rfl (aP [.str o,.str h,.int d,.non,.int x.2] rfl (dq _ (by simp))) rfl (dz (by simp;omega))))
 obtain⟨ρ',el,v8,O,rfl⟩:=fg (tg:=dF 8) (g:=h8) (λj ρ=>∃v8 O:OB,ρ=[sT af,sI ae,sL (G.map ba),sF (.dt hk hv),sI x.2,sS p,sI d,lT ((((dD G p d).take j).flatMap (eK (au af ae) hk hv p d x.2)).map ba),v8,O]) ((dD G p d).map .str)
  [sT af,sI ae,sL (G.map ba),sF (.dt hk hv),sI x.2,sS p,sI d,lT [],none,none] ⟨none,none,rfl⟩ (by
   rintro j dd ρ hd ⟨v8,O,rfl⟩;rw[vA]at hd;obtain⟨o,ho,rfl⟩:=oY hd;have hl:(((dD G p d).take j).flatMap (eK (au af ae) hk hv p d x.2)).length<=60:=vR (tq _ (mC _ _ _ _ _ _) _) (by rw[length_take];omega);refine⟨_,_,rfl,.inl (Qj o _ O hl),sS o,some ((cH hk hv [.inr o,.inr p]).getD .non,false),?_⟩;rw[take_add_one,ho,toList_some,List.flatMap_append,flatMap_cons,List.flatMap_nil,uQ])
 have e':j0 (dF 8) h8 ((dD G p d).map .str) [sT af,sI ae,sL (G.map ba),sF (.dt hk hv),sI x.2,sS p,sI d,lT [],none,none]=some (.nx [sT af,sI ae,sL (G.map ba),sF (.dt hk hv),sI x.2,sS p,sI d,lT ((tm (au af ae) G hk hv p d x.2).map ba),v8,O]):=by
  rw[el];have:(dD G p d).take ((dD G p d).map D.str).length=dD G p d:=by rw[vI,take_length]
  rw[this];rfl
 have SJ:∀ρ:DL.Env,ρ[2]? = some (sL (G.map ba))->ρ[5]? = some (sS p)->ρ[6]? = some (sI d)->bP (f1 fN (bO (bP (am 2)) 1 [5,6] (dF 0) (dm (aW (f2 cY (bW 0 1) (am 1))) (aW (fA cN (fV 0 (fV 2 aj))))) (bW 0 0))) ρ=some ((dD G p d).map .str):=λρ q2 q5 q6=>by
  have hc:=fZ (fi:=bP (am 2)) (nT:=1) (cap:=[5,6]) (tg:=dF 0) (c:=dm (aW (f2 cY (bW 0 1) (am 1))) (aW (fA cN (fV 0 (fV 2 aj))))) (fe:=bW 0 0) (ρ:=ρ) G ba (λc=>decide (c.p=p) && iG c d) (λc=>.str c.o) (by simp[q2]) (by omega) λc hc=>
   ⟨_,rfl,cJ (dj (bT (.str c.p) (.str p) (bT (ba c) (.int 1) (by simp[dr]) rfl (N7 c)) (by simp[dr,q5]) (by simp))) λ_=>dj (aP [ba c,.int d] (by simp[dr,q6]) (sM c d)),λ_=>⟨false,bT (ba c) (.int 0) (by simp[dr]) rfl (Pe c)⟩⟩
  have e2:(G.filter λc=>decide (c.p=p) && iG c d).map (λc=>D.str c.o)=((G.filter λc=>decide (c.p=p) && iG c d).map (·.o)).map .str:=by rw[uP];rfl
  rw[e2]at hc;show(f1 fN _ ρ).bind _=_;unfold f1;rw[hc,vJ];have Xw:((G.filter λc=>decide (c.p=p) && iG c d).map (·.o)).length<64:=by rw[vI];exact lt_of_le_of_lt (vM _ _) (by omega)
  show((ki _).bind _).bind _=_;rw[sW,vJ,if_pos Xw];rfl
 refine aw rfl (iz (.str p) (aP [x.1,.str "person"] (by simp[ha]) Qi) rfl (iz (.int d) (aP [x.1] (by simp[ha]) Ni) rfl (cI (ds:=[]) (by simp[sizeLine]) rfl (fj (ρ':=[sT af,sI ae,sL (G.map ba),sF (.dt hk hv),sI x.2,sS p,sI d,lT ((tm (au af ae) G hk hv p d x.2).map ba),v8,O]) ?_ (l5 rfl)))));exact gZ (ρ:=[sT af,sI ae,sL (G.map ba),sF (.dt hk hv),sI x.2,sS p,sI d,lT [],none,none]) (SJ _ rfl rfl rfl) e'
def GB (g:gM af)(ae:Int)(G:List Cl)(M:G.length<=60)(hk:List LK)(hv:LD)(U:∀v∈hv,∃s,v=.str s)(hx:x∈au af ae)(e:x.1=row a ("death" : Str) [.int d,.str p]):
  jm [.tup af,.int ae,.lst (G.map ba),.dt hk hv,.int x.2]=lT ((ci G (G.map Cl.o) p d++tm (au af ae) G hk hv p d x.2).map ba):=by
 have ha:=(dI g hx).1;have O:av [x.1,.str "person"]=sS p:=by rw[e];exact be (i:=1) cc rfl
 have T:aR [x.1]=sI d:=by rw[e];exact jD (.inl (by decide +kernel)) rfl
 have h1:=rK (fi:=bP (am 2)) (nT:=1) (cap:=[]) (tg:=dF 0) (fe:=bW 0 0) (ρ:=[sT af,sI ae,sL (G.map ba),sF (.dt hk hv),sI x.2,none,none]) G ba (λc=>.str c.o) (by simp) (by omega) λc hc=>⟨_,rfl,false,bT (ba c) (.int 0) (by simp[dr]) rfl (Pe c)⟩;have e2:G.map (λc=>D.str c.o)=(G.map Cl.o).map .str:=by rw[uP];rfl
 rw[e2]at h1;have KR:=g9 (G.map Cl.o) p d G;have NF:(tm (au af ae) G hk hv p d x.2).length<=60:=vR (tq _ (mC _ _ _ _ _ _) _) (vR (zO G p d) M);refine aw rfl (cI (ds:=(G.map Cl.o).map .str) h1 (gL _) (cI (ds:=(ci G (G.map Cl.o) p d).map ba) (aP [.lst (G.map ba),.lst ((G.map Cl.o).map .str),.str p,.int d] (cy rfl (cy rfl (cy (aP [x.1,.str "person"] (by simp[ha]) O) (cy (aP [x.1] (by simp[ha]) T) rfl)))) (zM G M _ p d)) (jE _) (ax ?_)));refine cm (x:=.lst ((ci G (G.map Cl.o) p d).map ba)) (y:=.lst ((tm (au af ae) G hk hv p d x.2).map ba)) (b1:=false) (b2:=true) rfl (aP [.tup af,.int ae,.lst (G.map ba),.dt hk hv,.int x.2] rfl (ya g ae G M hk hv U hx e)) ?_;rw[uW];exact if_pos (eB (by rw[vI,vI];omega))
abbrev NB:=List Cl×List LK×LD
def fm (K:KL)(st:NB)(x:D×Nat):NB :=
 if cL K st.1 x=true then
  if kindOf x.1 = "named" then (st.1++[⟨a8 1 x.1,a8 2 x.1,aF x.1,none,x.2⟩],st.2)
  else if kindOf x.1 = "chosen" then (ci st.1 [a8 2 x.1] (a8 1 x.1) (gN 4 x.1)++[⟨a8 2 x.1,a8 3 x.1,gN 4 x.1,none,x.2⟩],st.2)
  else if kindOf x.1 = "heir" then (st.1,dN st.2.1 [.inr (a8 2 x.1),.inr (a8 1 x.1)],dO st.2.1 st.2.2 [.inr (a8 2 x.1),.inr (a8 1 x.1)] (.str (a8 3 x.1)))
  else (ci st.1 (st.1.map Cl.o) (a8 1 x.1) (aF x.1)++tm K st.1 st.2.1 st.2.2 (a8 1 x.1) (aF x.1) x.2,st.2)
 else st
def cO (K:KL):KL:=eU (λx=>cM (kA x)) (K.filter λx=>!bj x.1)
noncomputable def nV (K:KL)(l:KL):NB:=l.foldl (fm K) ([],[],[])
noncomputable def kC (c:Cl):List At:=[.s c.o,.i c.s,.i c.n]
def b7 (K:KL):List Cl:=eU (λc=>cM (kC c)) (nV K (cO K)).1
noncomputable def Bv:LK->Str
 |[_,.inr p]=>p
 |_=>("" : Str)
noncomputable def Jr (dd:LS)(ks:List LK):Nat:=(ks.filter λk=>decide (Bv k∉dd)).length
structure Av (K l:KL)(dd:List Str)(st:NB):Prop where
 len:st.1.length+Jr dd st.2.1<=l.length
 ded:∀q∈dd,∃y∈l,iJ K q (aF y.1) y.2=true
 nod:(st.1.map λc=>(c.o,c.n)).Nodup
 num:∀c∈st.1,c.n∈l.map (·.2)
 hs:∀v∈st.2.2,∃s,v=D.str s
 hk:st.2.1.length<=l.length
def CH (h:told ws p d r=true):aF r<=d/\∀d',aF r<=d'->told ws p d' r=true:=by
 unfold told at h;split at h
 ·rename_i k ay;rw[vC]at h;obtain⟨h1,h2⟩:=h;unfold wx at h2;split at h2
  ·rename_i dd q;rw[vC]at h2;refine⟨RV h2.2,λd' hd=>?_⟩;unfold told;rw[vC];refine⟨h1,?_⟩;unfold wx;rw[vC];exact⟨h2.1,Au hd⟩
  ·cases h2
 ·cases h
theorem tu:∀(r:KL)(b:D×Nat),pW b r∈b::r/\∀y∈b::r,fQ y (pW b r)=false
 |[],b=>⟨by simp[pW],λy hy=>by rw[uT hy];simp[pW,fQ]⟩
 |x::r,b=>by
  rw[pW,Bq];by_cases h:fQ x b=true
  ·rw[if_pos (by rw[h])];obtain⟨h1,h2⟩:=tu r x;refine⟨mZ _ h1,λy hy=>?_⟩;rcases vP hy with rfl|hy
   ·have:=h2 x mX;unfold fQ at *;simp at *;omega
   ·exact h2 y hy
  ·rw[if_neg (by simpa using h)];obtain⟨h1,h2⟩:=tu r b;refine⟨?_,λy hy=>?_⟩
   ·rcases vP h1 with e|e
    ·rw[e];exact mX
    ·exact mZ _ (mZ _ e)
   ·rcases vP hy with rfl|hy
    ·exact h2 _ mX
    ·rcases vP hy with rfl|hy
     ·have:=h2 b mX;unfold fQ at *;simp at *;omega
     ·exact h2 y (mZ _ hy)
def t6 (h:iJ K p d i=true):∃m∈K,told eJ p d m.1=true/\m.2=i/\∀y∈K,told eJ p d y.1=true->fQ y m=false:=by
 unfold iJ at h;split at h
 ·cases h
 ·rename_i b r e;obtain⟨h1,h2⟩:=tu r b;rw[←e]at h1 h2;obtain⟨h3,h4⟩:=vN h1;exact⟨_,h3,h4,RV h,λy hy G=>h2 y (mem_filter.mpr ⟨hy,G⟩)⟩
def Bw (h1:iJ K p d1 i1=true)(h2:iJ K p d2 i2=true):i1=i2:=by
 obtain⟨m1,k1,t1,e1,O⟩:=t6 h1;obtain⟨m2,k2,t2,e2,T⟩:=t6 h2;have U:=CH t1;have a2:=CH t2;by_cases hd:d1<=d2
 ·have G:=T m1 k1 (U.2 d2 (by omega));have hm:aF m2.1<=aF m1.1:=by unfold fQ at G;simp at G;omega
  have M:=O m2 k2 (a2.2 d1 (by omega));unfold fQ at G M;simp at G M;omega
 ·have G:=O m2 k2 (a2.2 d1 (by omega));have hm:aF m1.1<=aF m2.1:=by unfold fQ at G;simp at G;omega
  have M:=T m1 k1 (U.2 d2 (by omega));unfold fQ at G M;simp at G M;omega
theorem zP {κ:Type}[DecidableEq κ]:∀ {ks:List κ}{vs:LD}{k:κ}{v:D},cH ks vs k=some v->k∈ks
 |k'::ks,d::ds,k,v,h=>by
  unfold cH at h;split at h
  ·rename_i e;rw[←e];exact mX
  ·exact mZ _ (zP h)
 |[],_,_,_,h=>by simp[cH]at h
 |_::_,[],_,_,h=>by simp[cH]at h
theorem t8 (p:Str)(dd:LS)(hp:p∉dd):∀ks:List LK,Jr dd ks=Jr (p::dd) ks+(ks.filter λk=>decide (Bv k=p)).length
 |[]=>rfl
 |k::ks=>by
  have G:=t8 p dd hp ks;unfold Jr at G ⊢;by_cases e:Bv k=p
  ·rw[filter_cons_of_pos (by simpa [e]using hp),filter_cons_of_neg (by simp[e]),filter_cons_of_pos (by simp[e]),vE,vE];omega
  ·by_cases h:Bv k∈dd
   ·rw[filter_cons_of_neg (by simp[h]),filter_cons_of_neg (by simp[h]),filter_cons_of_neg (by simp[e])];exact G
   ·rw[filter_cons_of_pos (by simp[h]),filter_cons_of_pos (by simp[h,e]),filter_cons_of_neg (by simp[e]),vE,vE];omega
theorem lF (G:LS)(p:Str)(day:Int):∀M:List Cl,((ci M G p day).map λc=>(c.o,c.n)).Sublist (M.map λc=>(c.o,c.n))
 |[]=>List.Sublist.slnil
 |c::M=>by
  have O:=lF G p day M;unfold ci at O ⊢;rw[flatMap_cons,uW,uY];have:((gz G p day c).map λc=>(c.o,c.n))=[(c.o,c.n)]∨((gz G p day c).map λc=>(c.o,c.n))=[]:=by
   unfold gz;split
   ·exact .inl rfl
   ·split
    ·exact .inl rfl
    ·exact .inr rfl
  rcases this with h|h
  ·rw[h];exact O.cons₂ _
  ·rw[h];exact O.cons _
def lG (h:c∈ci so offs p day):∃G∈so,G.o=c.o/\G.n=c.n:=by
 have:=(lF offs p day so).subset (uS ⟨c,h,rfl⟩);obtain⟨G,h1,h2⟩:=vO this;injection h2 with h3 h4;exact⟨G,h1,h3,h4⟩
theorem jF:∀(ss G:LS),G.Nodup->(ss.foldl iO G).Nodup
 |[],_,h=>h
 |s::ss,G,h=>jF ss _ (qP h s)
def t9 (G:List Cl)(p:Str)(day:Int):(dD G p day).Nodup:=(eA _).nodup_iff.mpr (jF _ [] nodup_nil)
theorem zQ (K:KL)(hk:List LK)(hv:LD)(p:Str)(day:Int)(n:Nat):∀os:LS,((os.flatMap (eK K hk hv p day n)).map λc=>(c.o,c.n)).Sublist (os.map λo=>(o,n))
 |[]=>List.Sublist.slnil
 |o::os=>by
  have G:=zQ K hk hv p day n os;rw[flatMap_cons,uW,uY];have:((eK K hk hv p day n o).map λc=>(c.o,c.n))=[(o,n)]∨((eK K hk hv p day n o).map λc=>(c.o,c.n))=[]:=by
   unfold eK;split
   ·split
    ·exact .inl rfl
    ·exact .inr rfl
   ·exact .inr rfl
  rcases this with h|h
  ·rw[h];exact G.cons₂ _
  ·rw[h];exact G.cons _
theorem wB {α:Type}[DecidableEq α]:∀(l m:List α),l.Nodup->(∀x∈l,x∈m)->l.length<=m.length
 |[],_,_,_=>uN _
 |x::l,m,h,s=>by
  rw[nodup_cons]at h;have hx:=s x mX;have:=wB l (m.erase x) h.2 λy hy=>(List.mem_erase_of_ne (a:=y) (b:=x) (λe=>h.1 (by rw[←e];exact hy))).mpr (s y (mZ _ hy));rw[List.length_erase_of_mem hx]at this;have:0<m.length:=List.length_pos_of_mem hx;rw[vE];omega
theorem wC {α G:Type}(f:α->List G)(q:α->Bool)(h:∀a,(f a).length<=1/\(q a=false->f a=[])):∀l:List α,(l.flatMap f).length<=(l.filter q).length
 |[]=>vT _
 |a::l=>by
  have M:=wC f q h l;rw[flatMap_cons,uZ];cases hq:q a with
  |true=>rw[filter_cons_of_pos hq,vE];have:=(h a).1;omega
  |false=>rw[filter_cons_of_neg (by rw[hq];decide),(h a).2 hq];simpa using M
def Js (K:KL)(G:List Cl)(hk:List LK)(hv:LD)(p:Str)(day:Int)(n:Nat):(tm K G hk hv p day n).length<=(hk.filter λk=>decide (Bv k=p)).length:=by
 refine vR (wC _ (λo=>(cH hk hv [.inr o,.inr p]).isSome) (λo=>⟨mC _ _ _ _ _ _ _,λh=>?_⟩) _) ?_
 ·have hl:cH hk hv [.inr o,.inr p]=none:=by simpa using h
  unfold eK zN;rw[hl]
 ·have M:(((dD G p day).filter λo=>(cH hk hv [.inr o,.inr p]).isSome).map λo=>([.inr o,.inr p]:LK)).Nodup:=List.Pairwise.map _ (λa b O e=>O (by injection e with e _;injection e)) ((t9 G p day).filter _);have:=wB _ (hk.filter λk=>decide (Bv k=p)) M λk hm=>by
   obtain⟨o,T,rfl⟩:=vO hm;obtain⟨v,hv⟩:=uU (vN T).2;exact mem_filter.mpr ⟨zP hv,Au rfl⟩
  rwa [vI]at this
def Av.step {K l:KL}{dd:LS}{st:NB}(h:Av K l dd st){x:D×Nat}(hx:x.2∉l.map (·.2)):∃Xx,Av K (l++[x]) Xx (fm K st x):=by
 have up:∀ {n:Nat},n∈l.map (·.2)->n∈(l++[x]).map (·.2):=λh=>by rw[uW];exact mem_append_left _ h
 have me:x.2∈(l++[x]).map (·.2):=by simp
 have T:(l++[x]).length=l.length+1:=by simp
 have M:∀q∈dd,∃y∈l++[x],iJ K q (aF y.1) y.2=true:=λq hq=>by
  obtain⟨y,h1,h2⟩:=h.ded q hq;exact⟨y,mem_append_left _ h1,h2⟩
 have wk:Av K (l++[x]) dd st:=⟨by have:=h.len;omega,M,h.nod,λc hc=>up (h.num c hc),h.hs,by have:=h.hk;omega⟩;have lq:=h.len;unfold fm;split
 ·rename_i G;split
  ·refine⟨dd,by simp;omega,M,?_,λc hc=>?_,h.hs,by rw[T];exact le_succ_of_le h.hk⟩
   ·rw[uW,nodup_append];refine⟨h.nod,by simp,λa ha b hb e=>?_⟩;obtain⟨c,hc,rfl⟩:=vO ha;simp at hb;subst hb;injection e with _ e2;exact hx (e2 ▸ h.num c hc)
   ·rcases mem_append.mp hc with hc|hc
    ·exact up (h.num c hc)
    ·rw[uT hc];exact me
  ·split
   ·have hl:=g9 [a8 2 x.1] (a8 1 x.1) (gN 4 x.1) st.1;refine⟨dd,by simp;omega,M,?_,λc hc=>?_,h.hs,by rw[T];exact le_succ_of_le h.hk⟩
    ·rw[uW,nodup_append];refine⟨h.nod.sublist (lF _ _ _ _),by simp,λa ha b hb e=>?_⟩;obtain⟨c,hc,rfl⟩:=vO ha;simp at hb;subst hb;injection e with _ e2;obtain⟨O,h1,_,h3⟩:=lG hc;exact hx (e2 ▸ h3 ▸ h.num O h1)
    ·rcases mem_append.mp hc with hc|hc
     ·obtain⟨O,h1,_,h3⟩:=lG hc;rw[←h3];exact up (h.num O h1)
     ·rw[uT hc];exact me
   ·split
    ·have hp:∀k:LK,Jr dd (dN st.2.1 k)<=Jr dd st.2.1+1/\(dN st.2.1 k).length<=st.2.1.length+1:=λk=>by
      unfold dN;split
      ·omega
      ·have:([k].filter λk=>decide (Bv k∉dd)).length<=1:=vM _ _;unfold Jr;rw[filter_append,uZ,uZ,length_singleton];omega
     refine⟨dd,?_,M,wk.nod,wk.num,λv hv=>?_,?_⟩
     ·have:=(hp [.inr (a8 2 x.1),.inr (a8 1 x.1)]).1;rw[T];show st.1.length+Jr dd (dN st.2.1 [.inr (a8 2 x.1),.inr (a8 1 x.1)])<=_;omega
     ·rcases wz hv with hv|hv
      ·exact⟨_,hv⟩
      ·exact h.hs v hv
     ·have:=(hp [.inr (a8 2 x.1),.inr (a8 1 x.1)]).2;have:=h.hk;rw[T];show(dN _ _).length<=_;omega
    ·rename_i n1 n2 n3;have hd:kindOf x.1 = "death":=by
      unfold cL at G;by_cases hd:kindOf x.1 = "death"
      ·exact hd
      ·rw[if_neg hd,if_neg (by simp[xZ,n1,n2,n3])]at G;cases G
     have hf:iJ K (a8 1 x.1) (aF x.1) x.2=true:=by unfold cL at G;rwa [if_pos hd]at G
     have Sj:a8 1 x.1∉dd:=λhm=>by
      obtain⟨y,h1,h2⟩:=h.ded _ hm;exact hx (by rw[←Bw h2 hf];exact uS ⟨y,h1,rfl⟩)
     have hl:=g9 (st.1.map Cl.o) (a8 1 x.1) (aF x.1) st.1;have XU:=Js K st.1 st.2.1 st.2.2 (a8 1 x.1) (aF x.1) x.2;have Ut:=t8 (a8 1 x.1) dd Sj st.2.1;have U:=zQ K st.2.1 st.2.2 (a8 1 x.1) (aF x.1) x.2 (dD st.1 (a8 1 x.1) (aF x.1));have UF:∀c∈tm K st.1 st.2.1 st.2.2 (a8 1 x.1) (aF x.1) x.2,c.o∈dD st.1 (a8 1 x.1) (aF x.1)/\c.n=x.2:=λc hc=>by
      have:=U.subset (uS ⟨c,hc,rfl⟩);obtain⟨o,h1,h2⟩:=vO this;injection h2 with h3 h4;exact⟨h3 ▸ h1,h4.symm⟩
     refine⟨a8 1 x.1::dd,?_,λq hq=>?_,?_,λc hc=>?_,h.hs,by rw[T];exact le_succ_of_le h.hk⟩
     ·rw[T];show(ci st.1 (st.1.map Cl.o) (a8 1 x.1) (aF x.1)++tm K st.1 st.2.1 st.2.2 (a8 1 x.1) (aF x.1) x.2).length+Jr _ st.2.1<=_;rw[uZ];omega
     ·rcases vP hq with rfl|hq
      ·exact⟨x,by simp,hf⟩
      ·exact M q hq
     ·rw[uW,nodup_append];refine⟨h.nod.sublist (lF _ _ _ _),List.Nodup.sublist U (List.Pairwise.map _ (λa b hab e=>hab (by injection e)) (t9 _ _ _)),λa ha b hb e=>?_⟩;obtain⟨c,hc,rfl⟩:=vO ha;obtain⟨c2,KW,rfl⟩:=vO hb;injection e with _ e2;obtain⟨O,h1,_,h3⟩:=lG hc;exact hx ((UF c2 KW).2 ▸ e2 ▸ h3 ▸ h.num O h1)
     ·rcases mem_append.mp hc with hc|hc
      ·obtain⟨O,h1,_,h3⟩:=lG hc;rw[←h3];exact up (h.num O h1)
      ·rw[(UF c hc).2];exact me
 ·exact⟨dd,wk⟩
def Jt (e:ρ[i]? = some (some (.dt ks vs,true)))(G:fv ρ=some (d,b))(ek:fk ρ=some kd)(hk:iV kd=some kk)(hf:b8 d=true)(h1:ks.length<=1000)(h2:kd.length<=1000):wa i fk fv ρ=some (.nx (ρ.set i (some (.dt (dN ks kk) (dO ks vs kk d),true)))):=by
 unfold wa;rw[e];dsimp only;rw[G,vJ,ek,vJ,hk,vJ,if_pos ⟨hf,dz (by omega),eB (by omega)⟩]
def R0 (a b:Cl):(bp (kC a) (kC b)).isSome=true:=by
 unfold kC;rw[bp];split
 ·rw[bp];split
  ·rw[bp];split
   ·rw[bp];rfl
   ·rfl
  ·rfl
 ·rfl
def CJ (cs:List Cl):eV (cs.map kC)=true:=by
 unfold eV;simp[all_eq_true,R0]
theorem wD {α O:Type}(f:α->O):∀ {l:List α},(l.map f).Nodup->∀ {a b:α},a∈l->b∈l->f a=f b->a=b
 |[],_,_,_,ha,_,_=>by cases ha
 |c::l,h,a,b,ha,hb,e=>by
  rw[uY,nodup_cons]at h;rcases vP ha with M|ha1
  ·rcases vP hb with G|hb1
   ·rw[M,G]
   ·exact absurd (uS ⟨b,hb1,by rw[←e,M]⟩) h.1
  ·rcases vP hb with G|hb1
   ·exact absurd (uS ⟨a,ha1,by rw[e,G]⟩) h.1
   ·exact wD f h.2 ha1 hb1 e
def GC {cs:List Cl}{a b:Cl}(ha:a∈cs)(hb:b∈cs)(e:cM (kC a)=cM (kC b)):(a.o,a.n)=(b.o,b.n):=by
 have h:=o5 (CJ cs) (uS ⟨a,ha,rfl⟩) (uS ⟨b,hb,rfl⟩) e;unfold kC at h;injection h with h1 h2;injection h1 with h1;injection h2 with _ h3;injection h3 with h3 _;injection h3 with h3;rw[h1,show a.n=b.n by omega]
def Ju (g:gM af)(ae:Int)(h:Av (au af ae) l dd st)(hj:l.length<=60)(hx:x∈au af ae)(UG:bj x.1=false)(v5:OB):
  ∃w5,(l8 [sT af,sI ae,lT (st.1.map ba),some (.dt st.2.1 st.2.2,true),sI x.2,v5]=some (.nx [sT af,sI ae,lT ((fm (au af ae) st x).1.map ba),some (.dt (fm (au af ae) st x).2.1 (fm (au af ae) st x).2.2,true),sI x.2,w5])
   ∨ l8 [sT af,sI ae,lT (st.1.map ba),some (.dt st.2.1 st.2.2,true),sI x.2,v5]=some (.ct [sT af,sI ae,lT ((fm (au af ae) st x).1.map ba),some (.dt (fm (au af ae) st x).2.1 (fm (au af ae) st x).2.2,true),sI x.2,w5])):=by
 obtain⟨ha,T⟩:=dI g hx;have U:st.1.length<=60:=by have:=h.len;omega
 have hf:b8 x.1=true:=T.rp.flat;have ec:=Ed g ae st.1 U hx UG;have M:cx (aW (fA nF (fV 0 (fV 1 (fV 2 (fV 4 aj)))))) [sT af,sI ae,lT (st.1.map ba),some (.dt st.2.1 st.2.2,true),sI x.2,some (x.1,false)]=some (!cL (au af ae) st.1 x) :=
  ca (dj (aP [.tup af,.int ae,.lst (st.1.map ba),.int x.2] (by simp) ec))
 have hw:fA aD (fV 5 aj) [sT af,sI ae,lT (st.1.map ba),some (.dt st.2.1 st.2.2,true),sI x.2,some (x.1,false)]=sS (kindOf x.1):=aP [x.1] rfl (jq T);refine⟨some (x.1,false),?_⟩;cases hc:cL (au af ae) st.1 x with
 |false=>
  rw[hc]at M;have es:fm (au af ae) st x=st:=by unfold fm;rw[hc];rfl
  rw[es];exact .inr (iz x.1 (by simp[ha]) hf (Rz (rG M rfl)))
 |true=>
  rw[hc]at M;left;refine iz x.1 (by simp[ha]) hf (fj (ms M rfl) ?_);by_cases hn:kindOf x.1 = "named"
  ·have es:fm (au af ae) st x=(st.1++[⟨a8 1 x.1,a8 2 x.1,aF x.1,none,x.2⟩],st.2):=by unfold fm;rw[hc,if_pos rfl,if_pos hn]
   rw[es];refine rG (bU (bb:=false) hw (Au hn)) ?_;have O:av [x.1,.str "office"]=sS (a8 1 x.1)/\av [x.1,.str "person"]=sS (a8 2 x.1):=by
    obtain⟨a,k,ay,e,d⟩:=T;rw[e]at hn ⊢;replace hn:k = "named":=hn;cases d with
    |named d o p=>exact⟨be (i:=1) cc rfl,be (i:=2) cc rfl⟩
    |root=>exact dP hn
    |chosen=>exact dP hn
    |heir=>exact dP hn
    |three _ hk=>rcases hk with rfl|rfl|rfl<;>exact dP hn
    |other _ hk=>rcases hk with rfl|rfl|rfl|rfl|rfl<;>exact dP hn
   have Ni:aR [x.1]=sI (aF x.1):=by rw[sK T];unfold um;rw[UG];rfl
   have e2:f2 eW (am 2) (fA bS (ag (fA gK (fV 5 (ag (fA aR (fV 5 aj)) (fV 4 aj)))) aj)) [sT af,sI ae,lT (st.1.map ba),some (.dt st.2.1 st.2.2,true),sI x.2,some (x.1,false)]=lT (st.1.map ba++[ba ⟨a8 1 x.1,a8 2 x.1,aF x.1,none,x.2⟩]):=by
    refine cm (x:=.lst (st.1.map ba)) (y:=.lst [ba ⟨a8 1 x.1,a8 2 x.1,aF x.1,none,x.2⟩]) (b1:=false) (b2:=true) rfl ?_ (if_pos (eB (by rw[vI,length_singleton];omega)));exact aP [ba ⟨a8 1 x.1,a8 2 x.1,aF x.1,none,x.2⟩] (aN (aP [x.1,.int (aF x.1),.int x.2] (cy rfl (cy (aP [x.1] rfl Ni) rfl)) (KI O.1 O.2 _ _)) rfl) (fH _ (by simp))
   have:=np (i:=2) e2 (by have hq:=jE (st.1++[(⟨a8 1 x.1,a8 2 x.1,aF x.1,none,x.2⟩:Cl)]);rwa [uW]at hq);rw[uW];exact this
  ·refine ms (bU (bb:=false) hw (Pz hn)) ?_;by_cases G:kindOf x.1 = "chosen"
   ·have es:fm (au af ae) st x=(ci st.1 [a8 2 x.1] (a8 1 x.1) (gN 4 x.1)++[⟨a8 2 x.1,a8 3 x.1,gN 4 x.1,none,x.2⟩],st.2):=by unfold fm;rw[hc,if_pos rfl,if_neg hn,if_pos G]
    rw[es];refine rG (bU (bb:=false) hw (Au G)) (np (i:=2) (aP [.lst (st.1.map ba),x.1,.int x.2] rfl ?_) (jE _));obtain⟨a,k,ay,e,d⟩:=T;rw[e]at G ⊢;replace G:k = "chosen":=G;cases d with
    |chosen d b o p s=>exact Ee st.1 U x.2
    |root=>exact dP G
    |named=>exact dP G
    |heir=>exact dP G
    |three _ hk=>rcases hk with rfl|rfl|rfl<;>exact dP G
    |other _ hk=>rcases hk with rfl|rfl|rfl|rfl|rfl<;>exact dP G
   ·refine ms (bU (bb:=false) hw (Pz G)) ?_;by_cases hh:kindOf x.1 = "heir"
    ·have es:fm (au af ae) st x=(st.1,dN st.2.1 [.inr (a8 2 x.1),.inr (a8 1 x.1)],dO st.2.1 st.2.2 [.inr (a8 2 x.1),.inr (a8 1 x.1)] (.str (a8 3 x.1))):=by unfold fm;rw[hc,if_pos rfl,if_neg hn,if_neg G,if_pos hh]
     rw[es];have O:av [x.1,.str "office"]=sS (a8 2 x.1)/\av [x.1,.str "by"]=sS (a8 1 x.1)/\av [x.1,.str "person"]=sS (a8 3 x.1):=by
      obtain⟨a,k,ay,e,d⟩:=T;rw[e]at hh ⊢;replace hh:k = "heir":=hh;cases d with
      |heir d b o p=>exact⟨be (i:=2) cc rfl,be (i:=1) cc rfl,be (i:=3) cc rfl⟩
      |root=>exact dP hh
      |named=>exact dP hh
      |chosen=>exact dP hh
      |three _ hk=>rcases hk with rfl|rfl|rfl<;>exact dP hh
      |other _ hk=>rcases hk with rfl|rfl|rfl|rfl|rfl<;>exact dP hh
     exact rG (bU (bb:=false) hw (Au hh)) (Jt (ks:=st.2.1) (vs:=st.2.2) (kd:=[.str (a8 2 x.1),.str (a8 1 x.1)]) (b:=false) rfl (aP [x.1,.str "person"] rfl O.2.2) (aN (aP [x.1,.str "office"] rfl O.1) (aN (aP [x.1,.str "by"] rfl O.2.1) rfl)) rfl rfl (by have:=h.hk;omega) (by simp))
    ·refine ms (bU (bb:=false) hw (Pz hh)) ?_;have es:fm (au af ae) st x=(ci st.1 (st.1.map Cl.o) (a8 1 x.1) (aF x.1)++tm (au af ae) st.1 st.2.1 st.2.2 (a8 1 x.1) (aF x.1) x.2,st.2):=by unfold fm;rw[hc,if_pos rfl,if_neg hn,if_neg G,if_neg hh]
     rw[es];have hd:kindOf x.1 = "death":=by
      unfold cL at hc;by_cases hd:kindOf x.1 = "death"
      ·exact hd
      ·rw[if_neg hd,if_neg (by simp[xZ,hn,G,hh])]at hc;cases hc
     refine np (i:=2) (aP [.tup af,.int ae,.lst (st.1.map ba),.dt st.2.1 st.2.2,.int x.2] (by simp) ?_) (jE _);obtain⟨a,k,ay,e,d⟩:=T;have hk:k = "death":=by rw[e]at hd;exact hd
     subst hk;obtain⟨dd,p,rfl⟩:=d.deed.three (by decide +kernel);have:=GB g ae st.1 U st.2.1 st.2.2 h.hs hx e;rw[this,e];rfl
theorem CK (K:KL):∀(l G:KL)(st:NB)(dd:LS),Av K G dd st->((G++l).map (·.2)).Nodup->∃M,Av K (G++l) M (l.foldl (fm K) st)
 |[],G,st,dd,h,_=>⟨dd,by rw[uQ];exact h⟩
 |x::l,G,st,dd,h,hn=>by
  have hx:x.2∉G.map (·.2):=λhm=>by
   rw[uW,nodup_append]at hn;exact hn.2.2 _ hm x.2 (by simp) rfl
  obtain⟨M,h'⟩:=h.step hx;have e:G++x::l=(G++[x])++l:=by simp
  rw[e]at hn ⊢;exact CK K l _ _ _ h' hn
def CL (K l:KL)(h:(l.map (·.2)).Nodup):∃dd,Av K l dd (nV K l):=by
 have:=CK K l [] ([],[],[]) [] ⟨uN _,by simp,by simp,by simp,by simp,uN _⟩ h;exact this
def oF (h:(K.map (·.2)).Nodup):((cO K).map (·.2)).Nodup:=((bF _ _).map _).nodup_iff.mpr (List.Nodup.sublist (List.Sublist.map _ filter_sublist) h)
def Ef {af:LD}(g:gM af)(ae:Int)(T:(cO (au af ae)).length<=60):se [.tup af,.int ae]=lT ((b7 (au af ae)).map ba)/\(b7 (au af ae)).length<=60:=by
 have eL:eE [.tup af,.int ae]=lT ((cO (au af ae)).map λx=>.int x.2):=pH g ae;generalize U:au af ae=K at T eL ⊢;have SK:∀x∈cO K,x∈K/\bj x.1=false:=λx hx=>by
  obtain⟨h1,h2⟩:=vN ((bF _ _).mem_iff.mp hx);exact⟨h1,by simpa using h2⟩
 have Nh:((cO K).map (·.2)).Nodup:=oF (by rw[←U];exact fR af ae);obtain⟨ρ',e,v4,v5,rfl⟩:=fg (tg:=dF 4) (g:=l8) (λj ρ=>∃v4 v5:OB,ρ=[sT af,sI ae,lT ((nV K ((cO K).take j)).1.map ba),some (.dt (nV K ((cO K).take j)).2.1 (nV K ((cO K).take j)).2.2,true),v4,v5]) ((cO K).map λx=>.int x.2)
  [sT af,sI ae,lT [],some (.dt [] [],true),none,none] ⟨none,none,rfl⟩ (by
   rintro j d ρ hd ⟨v4,v5,rfl⟩;rw[vA]at hd;obtain⟨x,hx,rfl⟩:=oY hd;have XV:j<(cO K).length:=(vV hx).1;have et:(cO K).take (j+1)=(cO K).take j++[x]:=by rw[take_add_one,hx];rfl
   have ef:nV K ((cO K).take (j+1))=fm K (nV K ((cO K).take j)) x:=by rw[et];unfold nV;rw[foldl_append];rfl
   obtain⟨QI,SM⟩:=SK x (vL hx);obtain⟨dd,h⟩:=CL K ((cO K).take j) (List.Nodup.sublist (List.Sublist.map _ (take_sublist _ _)) Nh);rw[←U]at h;have G:=Ju g ae h (by rw[U,length_take];omega) (x:=x) (by rw[U];exact QI) SM v5;rw[U]at G;obtain⟨w5,G⟩:=G;exact⟨_,_,rfl,G,sI x.2,w5,by rw[ef]⟩)
 have Ht:(cO K).take ((cO K).map λx=>D.int x.2).length=cO K:=by rw[vI,take_length]
 rw[Ht]at e;obtain⟨dd,M⟩:=CL K (cO K) Nh;generalize Qk:(nV K (cO K))=st at e M;have MZ:st.1.length<=60:=by have:=M.len;omega
 have UH:b7 K=eU (λc=>cM (kC c)) st.1:=by unfold b7;rw[Qk]
 have hm:∀ρ:DL.Env,j7 (uj gJ ρ) (st.1.map ba)=some (st.1.map λc=>.tup [.str c.o,.int c.s,.int c.n]):=λρ=>iF st.1 λc _=>by
  show(gJ [ba c]).map _=_;rw[xV];rfl
 have hk:dM (st.1.map λc=>D.tup [.str c.o,.int c.s,.int c.n])=some (st.1.map kC):=ia st.1 λc _=>rfl;have O:(st.1.map kC).length<64/\eV (st.1.map kC)=true/\fO (st.1.map kC)=true/\((st.1.map kC).map cM).Nodup:=by
  refine⟨by rw[vI];omega,CJ _,?_,?_⟩
  ·unfold fO;rw[Bool.or_eq_true];right;simp[all_eq_true,kC]
  ·rw[uP];have h1:st.1.Pairwise λa b=>(a.o,a.n)≠(b.o,b.n):=pairwise_map.mp M.nod;have h2:st.1.Pairwise λa b=>cM (kC a)≠cM (kC b):=by
    refine List.Pairwise.imp_of_mem ?_ h1;intro a b ha hb E6 e;exact E6 (GC ha hb e)
   exact pairwise_map.mpr h2
 have hz:(st.1.map kC).zip (st.1.map ba)=st.1.map λc=>(kC c,ba c):=by rw[zip_map']
 have key:((b7 K).map λc=>(kC c,ba c))=eU (λp:List At×D=>cM p.1) (st.1.map λc=>(kC c,ba c)):=by
  rw[UH];refine kJ _ (λx hx y hy e=>?_) ((bF _ _).map _) ?_
  ·obtain⟨a,ha,rfl⟩:=vO hx;obtain⟨b,hb,rfl⟩:=vO hy;rw[wD (λc:Cl=>(c.o,c.n)) M.nod ha hb (GC ha hb e)]
  ·exact pairwise_map.mpr (iq _ _)
 refine⟨aw rfl (cI (ds:=[]) (by simp[sizeLine]) rfl (fj (ρ':=[sT af,sI ae,lT [],some (.dt [] [],true),none,none]) rfl (fj (gZ (ds:=(cO K).map λx=>.int x.2) ?_ e) (ax ?_)))),by rw[UH,(bF _ _).length_eq];exact MZ⟩
 ·show(fA eE (fV 0 (fV 1 aj)) _).bind _=_;rw[aP [.tup af,.int ae] rfl eL];rfl
 ·unfold rf;show((some (D.lst (st.1.map ba),false)).bind _)=_;simp only[vJ];rw[hm];simp only[vJ];rw[hk];simp only[vJ];rw[if_pos O];unfold j8;rw[hz,←key,uP];rfl
end Lw
namespace Lw
open PySem PySem.Spec DL L2
def iK (x:Int×OI):D:=.tup [.int x.1,uD x.2]
def jG (x:Int×OI):b8 (iK x)=true:=by simp[iK,CD]
def wE (x:Int×OI):aQ 5 (iK x)=true:=by obtain⟨s,u⟩:=x;cases u<;>simp[iK,uD]
def yc {zs:LS}{i:Int}(h1 : -(zs.length:Int)<=i)(h2:i<zs.length):∃z∈zs,bH (.lst (zs.map .str)) (.int i)=sS z:=by
 obtain⟨j,hj,hl⟩:∃j,Hw (zs.map D.str).length i=some j/\j<zs.length:=by
  unfold Hw;rw[vI];by_cases h0:0<=i
  ·rw[if_pos h0,if_pos h2];exact⟨_,rfl,by omega⟩
  ·rw[if_neg h0,if_pos (by omega)];exact⟨_,rfl,by omega⟩
 refine⟨zs[j],getElem_mem hl,?_⟩;have:oR (zs.map D.str) i=some (.str zs[j]):=by unfold oR;rw[hj,vJ,vA,vU hl];rfl
 simp[this]
noncomputable def MR:LN:=[7,255,3,15]
noncomputable def MS:LN:=[1,2,3,4,5,7,128,255]
inductive Dd:Str->List D->Prop
 |root (o r:Str) (m:Nat) (hm:m∈MR) (f:Int):Dd ("root" : Str) [.str o,.int m,.int f,.str r]
 |named (d:Int) (o p:Str):Dd ("named" : Str) [.int d,.str o,.str p]
 |chosen (d:Int) (b o p:Str) (s:Int):Dd ("chosen" : Str) [.int d,.str b,.str o,.str p,.int s]
 |heir (d:Int) (b o p:Str):Dd ("heir" : Str) [.int d,.str b,.str o,.str p]
 |three (k:Str) (hk:k = "death" ∨ k = "lost" ∨ k = "found") (d:Int) (p:Str):Dd k [.int d,.str p]
 |leave (d:Int) (b p:Str) (m:Nat) (hm:m∈MS) (x:Int×Option Int) (f:Int):Dd ("leave" : Str) [.int d,.str b,.str p,.int m,iK x,.int f]
 |paper (k:Str) (hk:k = "paper" ∨ k = "like") (d:Int) (b:Str) (m:Nat) (hm:m∈MS) (x:Int×Option Int) (r:List D) (hf:bB r=true) (hp:r.all (aQ 5)=true):Dd k (.int d::.str b::.int m::iK x::r)
 |copy (k:Str) (hk:k = "copy" ∨ k = "call") (d:Int) (b:Str) (n:Nat):Dd k [.int d,.str b,.int n]
def Dd.cd (h:Dd k r):Cd k r:=by
 cases h with
 |root o r m hm f=>exact .root _ _ _ _
 |named d o p=>exact .named _ _ _
 |chosen d b o p s=>exact .chosen _ _ _ _ _
 |heir d b o p=>exact .heir _ _ _ _
 |three k hk d p=>exact .three _ hk _ _
 |leave d b p m hm x f=>exact .other _ (.inl rfl) _ _ _ (by simp[jG]) (by simp only[all_cons,all_nil,wE,aQ,Bool.and_true])
 |paper k hk d b m hm x r hf hp=>exact .other _ (hk.elim (λh=>.inr (.inl h)) λh=>.inr (.inr (.inl h))) _ _ _ (by simp[hf,jG]) (by simp only[all_cons,hp,wE,aQ,Bool.and_true])
 |copy k hk d b n=>exact .other _ (hk.elim (λh=>.inr (.inr (.inr (.inl h)))) λh=>.inr (.inr (.inr (.inr h)))) _ _ _ rfl (by simp)
def cu (r:D):Prop:=∃h k ay,r=row h k ay/\Dd k ay
def cu.c (g:cu r):xT r:=by obtain⟨h,k,ay,e,d⟩:=g;exact⟨h,k,ay,e,d.cd⟩
def cu.flat (g:cu r):b8 r=true:=g.c.rp.flat
noncomputable def wF (af:LD):LS:=(af.filter bj).map (a8 0)
def Eg (af:LD)(r:D):wF (af++[r])=wF af++if bj r=true then [a8 0 r]else []:=by
 unfold wF;rw[filter_append,uW,filter_cons];split
 ·rename_i h;rfl
 ·rename_i h;rfl
def wG (a b:Nat):iD [.int a,.int b]=sO (decide (a &&& b=b)):=by
 have:Builtin.bitAnd (a:Int) (b:Int)=((a &&& b:Nat):Int):=by simp[Builtin.bitAnd]
 simp[iD,sj,this];omega
def iP (r:D):Nat:=(if kindOf r = "root" then gN 1 r else if kindOf r = "leave" then gN 3 r else gN 2 r).toNat
def ft (a:Int)(k:Str)(ay:LD):kindOf (row a k ay)=k:=rfl
noncomputable def fu:LS:=[("leave" : Str),"paper","like"]
def tE (g:cu r)(h:bj r=true):∃a o rl,∃m:Nat,∃f:Int,r=row a ("root" : Str) [.str o,.int m,.int f,.str rl]/\m∈MR/\iP r=m:=by
 obtain⟨a,k,ay,rfl,d⟩:=g;have hk:k = "root":=RV h;clear h;cases d with
 |root o rl m hm f=>exact⟨a,o,rl,m,f,rfl,hm,by unfold iP;rw[ft,if_pos rfl];rfl⟩
 |named=>exact dP hk
 |chosen=>exact dP hk
 |heir=>exact dP hk
 |three k G=>rcases G with rfl|rfl|rfl<;>exact dP hk
 |leave=>exact dP hk
 |paper k G=>rcases G with rfl|rfl<;>exact dP hk
 |copy k G=>rcases G with rfl|rfl<;>exact dP hk
def CM (g:cu r)(h:bj r=true):av [r,.str "matters"]=sI (iP r):=by
 obtain⟨a,o,rl,m,f,rfl,_,e⟩:=tE g h;rw[e];exact be (i:=1) cc rfl
def M0 {a:Int}{k:Str}{ay:LD}(d:Dd k ay)(h:k∈fu):iP (row a k ay)∈MS/\(∃i:Nat,mq bM (.str k) (.str "matters")=sI i/\ay[i]? = some (.int (iP (row a k ay))))/\(D.str k::ay).getD (3+if k = "leave" then 1 else 0) .non=.int (iP (row a k ay))/\(3+if k = "leave" then 1 else 0)<(D.str k::ay).length:=by
 cases d with
 |leave d b p m hm x f=>
  have e:iP (row a ("leave" : Str) [.int d,.str b,.str p,.int m,iK x,.int f])=m:=by unfold iP;rw[ft,if_neg (by decide +kernel),if_pos rfl];rfl
  rw[e];refine⟨hm,⟨3,cc,rfl⟩,?_,?_⟩
  ·rw[if_pos rfl];rfl
  ·rw[if_pos rfl];simp
 |paper k hk d b m hm x r hf hp=>
  have hl:k ≠ "leave":=by rcases hk with rfl|rfl<;>decide +kernel
  have M:k ≠ "root":=by rcases hk with rfl|rfl<;>decide +kernel
  have e:iP (row a k (.int d::.str b::.int m::iK x::r))=m:=by unfold iP;rw[ft,if_neg M,if_neg hl];rfl
  rw[e];refine⟨hm,⟨2,by rcases hk with rfl|rfl<;>exact cc,rfl⟩,?_,?_⟩
  ·rw[if_neg hl];rfl
  ·rw[if_neg hl];simp
 |root=>exact dP h
 |named=>exact dP h
 |chosen=>exact dP h
 |heir=>exact dP h
 |three k G=>rcases G with rfl|rfl|rfl<;>exact dP h
 |copy k G=>rcases G with rfl|rfl<;>exact dP h
def ye (g:cu r)(h:kindOf r∈fu):av [r,.str "matters"]=sI (iP r):=by
 obtain⟨a,k,ay,rfl,d⟩:=g;obtain⟨_,⟨i,h1,h2⟩,_⟩:=M0 (a:=a) d h;exact be h1 h2
noncomputable def cr:LS:=[("leave" : Str),"paper","like","copy"]
def jY (h:k∈cr∨k = "call"):eI k=true:=by
 rw[sG];refine Au ?_;rcases h with h|rfl
 ·have:∀k∈cr,k∈zJ:=by decide +kernel
  exact this k h
 ·decide +kernel
def Jv {k:Str}{ay:LD}(d:Dd k ay)(h:eI k=true):∃(dd:Int)(b:Str)(r:LD),ay=.int dd::.str b::r:=d.cd.deed.slg h
def CN (g:cu r)(h:eI (kindOf r)=true):av [r,.str "by"]=sS (cR r):=by
 obtain⟨a,k,ay,rfl,d⟩:=g;obtain⟨dd,b,q,rfl⟩:=Jv d h;exact be (i:=1) (G4 h) rfl
noncomputable def bQ (K:KL):LD:=(K.filter λx=>bj x.1).map (·.1)
theorem zR:∀(l:List (eQ×D))(a:LK×LD),(a.1++l.map (·.1)).Nodup->l.foldl ri a=(a.1++l.map (·.1),a.2++l.map (·.2))
 |[],a,_=>by simp
 |p::l,a,h=>by
  have hn:p.1∉a.1:=by
   rw[uY,nodup_append]at h;exact λz=>h.2.2 _ z _ mX rfl
  have e:ri a p=(a.1++[p.1],a.2++[p.2]):=by unfold ri dN dO;rw[if_neg hn,if_neg hn]
  rw[foldl_cons,e,zR l _ (by rw[append_assoc];exact h)];simp
section
variable {K:KL}(hn:((bQ K).map (a8 0)).Nodup)
include hn
theorem tF:cb (nU K)=((bQ K).map λv=>(.inr (a8 0 v):eQ),bQ K):=by
 have e:nU K=(bQ K).map λv=>((.inr (a8 0 v):eQ),v):=by unfold nU bQ;rw[uP];rfl
 have G:((bQ K).map λv=>(.inr (a8 0 v):eQ)).Nodup:=by
  refine pairwise_map.mpr ((pairwise_map.mp hn).imp λh z=>h (Sum.inr.inj z))
 rw[e];unfold cb;rw[zR _ _ (by rw[uP];exact G),uP,uP];simp only[List.nil_append];congr 1;exact map_id _
end
noncomputable def Jw (j:Nat):D->Int×OI
 |.tup [_,.tup (_::ay)]=>match ay[j]? with
  |some (.tup [.int s,.int u])=>(s,some u)
  |some (.tup [.int s,.non])=>(s,none)
  |_=>(0,none)
 |_=>(0,none)
def qp {h:Int}{k:Str}{ay:LD}{j:Nat}{x:Int×OI}(e:ay[j]? = some (iK x)):Jw j (row h k ay)=x:=by
 unfold Jw row;simp only[e];obtain⟨s,u⟩:=x;cases u<;>rfl
def fT (r:D):Int×OI:=if kindOf r = "leave" then Jw 4 r else Jw 3 r
def iL (r:D):Int:=if kindOf r = "root" then gN 2 r else gN 5 r
def nW (r:D):Bool:=decide (kindOf r = "leave")
def pL {r:D}(g:cu r)(h:kindOf r = "leave"):∃a d b p,∃m:Nat,∃x f,r=row a ("leave" : Str) [.int d,.str b,.str p,.int m,iK x,.int f]/\m∈MS/\iP r=m/\fT r=x/\iL r=f:=by
 obtain⟨a,k,ay,rfl,d⟩:=g;have hk:k = "leave":=h;clear h;cases d with
 |leave d b p m hm x f=>exact⟨a,d,b,p,m,x,f,rfl,hm,by unfold iP;rw[ft,if_neg (by decide +kernel),if_pos rfl];rfl,by unfold fT;rw[ft,if_pos rfl];exact qp rfl,by unfold iL;rw[ft,if_neg (by decide +kernel)];rfl⟩
 |root=>exact dP hk
 |named=>exact dP hk
 |chosen=>exact dP hk
 |heir=>exact dP hk
 |three k G=>rcases G with rfl|rfl|rfl<;>exact dP hk
 |paper k G=>rcases G with rfl|rfl<;>exact dP hk
 |copy k G=>rcases G with rfl|rfl<;>exact dP hk
def Jx {a:Int}{k:Str}{ay:LD}(d:Dd k ay)(h:k∈fu):(∃i:Nat,mq bM (.str k) (.str "stretch")=sI i/\ay[i]? = some (iK (fT (row a k ay))))/\(D.str k::ay).getD (4+if k = "leave" then 1 else 0) .non=iK (fT (row a k ay))/\(4+if k = "leave" then 1 else 0)<(D.str k::ay).length:=by
 cases d with
 |leave d b p m hm x f=>
  have e:fT (row a ("leave" : Str) [.int d,.str b,.str p,.int m,iK x,.int f])=x:=by unfold fT;rw[ft,if_pos rfl];exact qp rfl
  rw[e,if_pos rfl];exact⟨⟨4,cc,rfl⟩,rfl,by simp⟩
 |paper k hk d b m hm x r hf hp=>
  have hl:k ≠ "leave":=by rcases hk with rfl|rfl<;>decide +kernel
  have e:fT (row a k (.int d::.str b::.int m::iK x::r))=x:=by unfold fT;rw[ft,if_neg hl];exact qp rfl
  rw[e,if_neg hl];exact⟨⟨3,by rcases hk with rfl|rfl<;>exact cc,rfl⟩,rfl,by simp⟩
 |root=>exact dP h
 |named=>exact dP h
 |chosen=>exact dP h
 |heir=>exact dP h
 |three k G=>rcases G with rfl|rfl|rfl<;>exact dP h
 |copy k G=>rcases G with rfl|rfl<;>exact dP h
def CO (g:cu r)(h:kindOf r∈fu):av [r,.str "stretch"]=some (iK (fT r),false):=by
 obtain⟨a,k,ay,rfl,d⟩:=g;obtain⟨⟨i,h1,h2⟩,_⟩:=Jx (a:=a) d h;exact be h1 h2
def yf (h:kindOf r = "leave"):kindOf r∈fu:=by rw[h];decide +kernel
def KJ (g:cu r)(h:bj r=true∨kindOf r = "leave"):av [r,.str "further"]=sI (iL r):=by
 rcases h with h|h
 ·obtain⟨a,o,rl,m,f,rfl,_,_⟩:=tE g h;rw[show iL (row a ("root" : Str) [.str o,.int m,.int f,.str rl])=f by unfold iL;rw[ft,if_pos rfl];rfl];exact be (i:=2) cc rfl
 ·obtain⟨a,d,b,p,m,x,f,e,_,_,_,G⟩:=pL g h;rw[G,e];exact be (i:=5) cc rfl
def tG (r v:D):Bool:=decide (iP v &&& iP r=iP r) && !(nW r && decide (iL v<=iL r))
def oG (r v:D):D:=if decide (iP v &&& iP r=iP r)=true then (if(nW r && decide (iL v<=iL r))=true then .str "further" else .non)else .str "matters"
def zS (O:cu r)(T:cu v)(kr:kindOf r∈fu)(kv:bj v=true∨kindOf v = "leave"):∃d,iZ [r,v]=some (d,false)/\qJ d .non=sO (tG r v)/\d=oG r v:=by
 have U:av [v,.str "matters"]=sI (iP v):=kv.elim (CM T) λh=>ye T (yf h);have t1:aW (fA iD (ag (fA av (fV 1 (ag (fS "matters") aj))) (ag (fA av (fV 0 (ag (fS "matters") aj))) aj))) [some (r,false),some (v,false)]=some (decide (iP v &&& iP r=iP r)):=dj (aP [.int (iP v),.int (iP r)] (aN (aP [v,.str "matters"] rfl U) (aN (aP [r,.str "matters"] rfl (ye O kr)) rfl)) (wG _ _));have t2:aW (f2 cY (fA aD (fV 0 aj)) (fS "leave")) [some (r,false),some (v,false)]=some (nW r):=bU (a:=kindOf r) (bb:=false) (aP [r] rfl (jq O.c)) rfl;have t3:nW r=true->aW (f2 Nv (fA av (fV 0 (ag (fS "further") aj))) (fA av (fV 1 (ag (fS "further") aj)))) [some (r,false),some (v,false)]=some (decide (iL v<=iL r)):=λh=>dj (bT (.int (iL r)) (.int (iL v)) (aP [r,.str "further"] rfl (KJ O (.inr (RV h)))) (aP [v,.str "further"] rfl (KJ T kv)) rfl);have t4:=cJ t2 t3;unfold tG;cases G:decide (iP v &&& iP r=iP r) with
 |false=>exact⟨.str "matters",aw rfl (bw (ca (p:=false) (t1.trans (by rw[G]))) (ax rfl)),rfl,by simp only[oG,G];rfl⟩
 |true=>
  cases M:(nW r && decide (iL v<=iL r)) with
  |true=>exact⟨.str "further",aw rfl (aM (ca (p:=true) (t1.trans (by rw[G]))) (bw (t4.trans (by rw[M])) (ax rfl))),rfl,by simp only[oG,G,M];rfl⟩
  |false=>exact⟨.non,aw rfl (aM (ca (p:=true) (t1.trans (by rw[G]))) (aM (t4.trans (by rw[M])) (ax rfl))),rfl,by simp only[oG,G,M];rfl⟩
def tH (h:k∈fu):k∈cr:=by
 have:∀k∈fu,k∈cr:=by decide +kernel
 exact this k h
def jd (h:kindOf r∈fu):bj r=false:=by
 have:∀k∈fu,decide (k = "root")=false:=by decide +kernel
 exact this _ h
def tI (g:cu r)(h:bj r=false):aR [r]=sI (aF r):=by
 have:=sK g.c;unfold um at this;rwa [h,if_neg (by decide)]at this
def uq (cs:List Cl)(r v:D):Bool:=iI cs (a8 0 v) (a8 3 v) (cR r) (aF r) && tG r v
def GD (cs:List Cl)(r v:D):D:=if iI cs (a8 0 v) (a8 3 v) (cR r) (aF r)=true then oG r v else .str "holder"
def Jy (cs:List Cl)(M:cs.length<=60)(O:cu r)(U:cu v)(T:kindOf r∈fu)(hv:bj v=true):∃d,hG [.lst (cs.map ba),r,v]=some (d,false)/\qJ d .non=sO (uq cs r v)/\d=GD cs r v:=by
 obtain⟨d,e1,e2,e3⟩:=zS O U T (.inl hv);have t1:aW (fA cK (fV 0 (fV 2 (ag (fA av (fV 1 (ag (fS "by") aj))) (ag (fA aR (fV 1 aj)) aj))))) [sL (cs.map ba),some (r,false),some (v,false)]=some (iI cs (a8 0 v) (a8 3 v) (cR r) (aF r)):=by
  refine dj (aP [.lst (cs.map ba),v,.str (cR r),.int (aF r)] (cy rfl (cy rfl (aN (aP [r,.str "by"] rfl (CN O (jY (.inl (tH T))))) (aN (aP [r] rfl (tI O (jd T))) rfl)))) ?_);obtain⟨a,o,rl,m,f,rfl,_,_⟩:=tE U hv;exact xW cs M _ _
 unfold uq;cases G:iI cs (a8 0 v) (a8 3 v) (cR r) (aF r) with
 |false=>exact⟨.str "holder",aw rfl (bw (ca (p:=false) (t1.trans (by rw[G]))) (ax rfl)),rfl,by simp only[GD,G];rfl⟩
 |true=>exact⟨d,aw rfl (aM (ca (p:=true) (t1.trans (by rw[G]))) (ax (aP [r,v] rfl e1))),e2,by rw[e3];simp only[GD,G];rfl⟩
def GF (cs:List Cl)(r v:D):Int:=match km cs (a8 0 v) (a8 3 v) (aF r) with
 |.tup [_,_,.int n]=>n
 |_=>0
def GG (h:iI cs o rl p day=true):∃n:Int,km cs o rl day=.tup [.str "one",.str p,.int n]:=by
 unfold iI km at h;unfold km;generalize NA cs o day=al at h ⊢;cases al with
 |nil=>
  have h:cQ (.tup [.str "none"]) (.tup [.str "one",.str p])=true:=h;simp[fW]at h
 |cons b r=>
  rw[pK]at h ⊢;split at h
  ·have h:cQ (.tup [.str "parted",.lst ((mB (b::r)).map .str)]) (.tup [.str "one",.str p])=true:=h;simp[fW]at h
  ·rename_i hn;rw[if_neg hn];have h:cQ (.tup [.str "one",.str (iH rl b r).p]) (.tup [.str "one",.str p])=true:=h;have h:(iH rl b r).p=p:=by simpa [fW]using h
   exact⟨_,by rw[h]⟩
def Jz (h:iI cs (a8 0 v) (a8 3 v) (cR r) (aF r)=true):km cs (a8 0 v) (a8 3 v) (aF r)=.tup [.str "one",.str (cR r),.int (GF cs r v)]:=by
 obtain⟨n,e⟩:=GG h;unfold GF;rw[e]
def M2 (cs:List Cl)(r v:D):D:=.tup [.str "office",.str (a8 0 v),.int (GF cs r v)]
def tJ (g:∀r∈af,cu r)(hv:v∈bQ (au af ae)):cu v/\bj v=true:=by
 obtain⟨x,hx,rfl⟩:=vO hv;obtain⟨h1,h2⟩:=vN hx;exact⟨g _ (vL (b9 h1)),h2⟩
def GH (hl:af.length<=60)(ae:Int):(bQ (au af ae)).length<=60:=by
 unfold bQ;rw[vI];exact vR (vM _ _) (vR (c6 af ae) hl)
def Eh {af:LD}(g:∀r∈af,cu r)(hl:af.length<=60)(ae:Int)(hn:((bQ (au af ae)).map (a8 0)).Nodup)(cs:List Cl)(M:cs.length<=60){O:Nat}{r:D}(U:af[O]? = some r)(kr:kindOf r∈fu):
  iE [.tup af,.int ae,.lst (cs.map ba),.int O]=lT (((bQ (au af ae)).filter (uq cs r)).map (M2 cs r)):=by
 have gC:gM af:=⟨hl,λr U=>(g r U).c⟩;have gr:=g r (vL U);have XW:=GH hl ae;have h1:=fZ (fi:=rz (fA gE (fV 0 (fV 1 aj)))) (nT:=1) (cap:=[2,4]) (tg:=dF 0) (c:=aW (f2 qJ (fA hG (fV 1 (fV 2 (fV 0 aj)))) (fC .non))) (fe:=am 0)
  (ρ:=[sT af,sI ae,sL (cs.map ba),sI O,some (r,false),none]) (bQ (au af ae)) id (uq cs r) id
  (by show(fA gE _ _).bind _=_;rw[aP [.tup af,.int ae] rfl (sZ gC ae),tF hn];simp) (by omega) λv hv=>by
   obtain⟨gv,G⟩:=tJ g hv;obtain⟨d,e1,e2,_⟩:=Jy cs M gr gv kr G;exact⟨[some (v,false),sL (cs.map ba),some (r,false)],rfl,dj (bT d .non (aP [.lst (cs.map ba),r,v] rfl e1) rfl e2),λ_=>⟨false,rfl⟩⟩
 rw[map_id]at h1;have Ng:bB ((bQ (au af ae)).filter (uq cs r))=true:=ce λv hv=>(tJ g (vN hv).1).1.flat;refine aw rfl (iz r (bT (.tup af) (.int O) rfl rfl (by simp[cf U])) gr.flat (cI h1 Ng (ax ?_)));refine rK (fi:=bP (am 5)) (nT:=1) (cap:=[2,4]) (tg:=dF 0) (fe:=fA bi (ag (fS "office") (ag (fA av (fV 0 (ag (fS "office") aj))) (ag (f2 bH (fA eF (fV 1 (fV 0 (ag (fA aR (fV 2 aj)) aj)))) (fI 2)) aj))))
  (ρ:=[sT af,sI ae,sL (cs.map ba),sI O,some (r,false),lT ((bQ (au af ae)).filter (uq cs r))]) ((bQ (au af ae)).filter (uq cs r)) id (M2 cs r) (by simp) (vR (vM _ _) (by omega)) λv hv=>?_
 obtain⟨SD,Xy⟩:=vN hv;obtain⟨gv,G⟩:=tJ g SD;have T:(iI cs (a8 0 v) (a8 3 v) (cR r) (aF r) && tG r v)=true:=Xy;rw[vC]at T;have hh:=Jz T.1;refine⟨[some (v,false),sL (cs.map ba),some (r,false)],rfl,false,?_⟩;obtain⟨a,o,rl,m,f,rfl,_,_⟩:=tE gv G;refine aP [.str "office",.str o,.int (GF cs r _)] (cy rfl (aN (aP [row a ("root" : Str) [.str o,.int m,.int f,.str rl],.str "office"] rfl lm) (cy (bT (km cs o rl (aF r)) (.int 2) (aP [.lst (cs.map ba),row a ("root" : Str) [.str o,.int m,.int f,.str rl],.int (aF r)] (cy rfl (cy rfl (aN (aP [r] rfl (tI gr (jd kr))) rfl))) (nR cs M _)) rfl ?_) rfl))) (dq _ (by simp));have hh:km cs o rl (aF r)=_:=hh;rw[hh];simp[Ts]
noncomputable def kn (day:Int)(x:Int×OI):Bool:=decide (x.1<=day) && (match x.2 with|none=>true|some u=>decide (day<u))
noncomputable def Ph:OI->OI->Bool
 |_,none=>true
 |none,some _=>false
 |some x,some y=>decide (x<=y)
def J0 (a b:OI):jn [uD a,uD b]=sO (Ph a b):=by
 cases b with
 |none=>exact aw rfl (bw (dj (by simp[uD])) (ax (by cases a<;>rfl)))
 |some y=>
  refine aw rfl (aM (dj (by simp[uD])) (ax ?_));cases a with
  |none=>exact dc (p:=false) (q:=false) (b1:=false) (by simp[uD]) (by simp)
  |some x=>exact dc (p:=true) (q:=decide (x<=y)) (b1:=false) (by simp[uD]) λ_=>by simp[uD]
def GI (a b:Int×OI):Bool:=decide (b.1<=a.1) && Ph a.2 b.2
def M3 (a b:Int×OI):ja [iK a,iK b]=sO (GI a b) :=
 aw rfl (ax (dc (b1:=false) (by simp[iK,HE]) λ_=>aP [uD a.2,uD b.2] (cy (by simp[iK,E4]) (cy (by simp[iK,E4]) rfl)) (J0 _ _)))
def KN {af:LD}{i:Nat}{r:D}(G:af[i]? = some r)(g:cu r)(h:bj r=false):fE [.tup af,.int i]=sT [.int (aF r),.int i] :=
 aw rfl (ax (aP [.int (aF r),.int i] (cy (aP [r] (by simp[cf G]) (tI g h)) rfl) (by simp[sizeLine])))
def R1 (a b c d:Int):Lf (.tup [.int a,.int b]) (.tup [.int c,.int d])=sO (decide (a<c∨(a=c/\b<d))):=by
 show(bp [.i a,.i b] [.i c,.i d]).map _=_;rw[My];rfl
def zU {af:LD}{i j:Nat}{x y:D}(hx:af[i]? = some x)(hy:af[j]? = some y)(G:cu x)(M:cu y)(nx:bj x=false)(O:bj y=false):gu [.tup af,.int i,.int j]=sO (fQ (x,i) (y,j)) :=
 aw rfl (ax (bT (.tup [.int (aF x),.int i]) (.tup [.int (aF y),.int j]) (aP [.tup af,.int i] rfl (KN hx G nx)) (aP [.tup af,.int j] rfl (KN hy M O)) (R1 _ _ _ _)))
def By (r:D)(G:Nat)(x:D×Nat):Bool:=fQ x (r,G) && ((kn (aF r) (fT x.1) && GI (fT r) (fT x.1)) && tG r x.1)
def CP (r:D)(G:Nat)(x:D×Nat):D:=if fQ x (r,G)=true then (if(kn (aF r) (fT x.1) && GI (fT r) (fT x.1))=true then oG r x.1 else .str "days")else .str "order"
def J5 {af:LD}{M G:Nat}{r l:D}(hr:af[M]? = some r)(hl:af[G]? = some l)(T:cu r)(gl:cu l)(kr:kindOf r∈fu)(kl:kindOf l = "leave"):∃d,jb [.tup af,.int M,.int G]=some (d,false)/\qJ d .non=sO (By r M (l,G))/\d=CP r M (l,G):=by
 have nr:=jd kr;have nl:=jd (yf kl);obtain⟨d,e1,e2,e3⟩:=zS T gl kr (.inr kl);let E:DL.Env:=[sT af,sI M,sI G,some (r,false),some (iK (fT l),false)];have al:∀ρ:DL.Env,ρ[0]? = some (sT af)->ρ[2]? = some (sI G)->f2 bH (am 0) (am 2) ρ=some (l,false):=λρ h0 h2=>bT (.tup af) (.int G) (by simp[h0]) (by simp[h2]) (by simp[cf hl]);have t1:aW (fA gu (fV 0 (fV 2 (fV 1 aj)))) E=some (fQ (l,G) (r,M)):=dj (aP [.tup af,.int G,.int M] rfl (zU hl hr gl T nl nr));have t2:aW (fA gp (ag (fA aR (fV 3 aj)) (fV 4 aj))) E=some (kn (aF r) (fT l)):=dj (aP [.int (aF r),iK (fT l)] (aN (aP [r] rfl (tI T nr)) (cy rfl rfl)) (xU _ _ _));have t3:aW (fA ja (ag (fA av (fV 3 (ag (fS "stretch") aj))) (fV 4 aj))) E=some (GI (fT r) (fT l)):=dj (aP [iK (fT r),iK (fT l)] (aN (aP [r,.str "stretch"] rfl (CO T kr)) (cy rfl rfl)) (M3 _ _));have t4:=de (ca t2) λ_=>ca t3;have go:∀(h:FS)(res:Option Res),h E=res->aA (aX 3 (f2 bH (am 0) (am 1))) (aA (aX 4 (fA av (ag (f2 bH (am 0) (am 2)) (ag (fS "stretch") aj)))) h) [sT af,sI M,sI G,none,none]=res:=λh res k=>
  iz r (bT (.tup af) (.int M) rfl rfl (by simp[cf hr])) T.flat (iz (iK (fT l)) (aP [l,.str "stretch"] (aN (al _ rfl rfl) rfl) (CO gl (yf kl))) (jG _) k)
 unfold By;cases O:fQ (l,G) (r,M) with
 |false=>exact⟨.str "order",aw rfl (go _ _ (bw (ca (p:=false) (t1.trans (by rw[O]))) (ax rfl))),rfl,by simp only[CP,O];rfl⟩
 |true=>
  cases U:(kn (aF r) (fT l) && GI (fT r) (fT l)) with
  |false=>exact⟨.str "days",aw rfl (go _ _ (aM (ca (p:=true) (t1.trans (by rw[O]))) (bw (t4.trans (by rw[←Bool.not_and,U];rfl)) (ax rfl)))),rfl,by simp only[CP,O,U];rfl⟩
  |true=>exact⟨d,aw rfl (go _ _ (aM (ca (p:=true) (t1.trans (by rw[O]))) (aM (t4.trans (by rw[←Bool.not_and,U];rfl)) (ax (aP [r,l] (cy rfl (aN (al _ rfl rfl) rfl)) e1))))),e2,by rw[e3];simp only[CP,O,U];rfl⟩
def mD {af:LD}{ae:Int}{i:Nat}{r:D}(M:af[i]? = some r)(g:cu r):gt [.tup af,.int ae,.int i]=sO (decide (bo r<=ae) && nW r):=by
 have G:cC [.tup af,.int ae,.int i]=sO (decide (bo r<=ae)):=by
  obtain⟨a,k,ay,rfl,d⟩:=g;exact lh M ae
 exact aw rfl (ax (dc (aP [.tup af,.int ae,.int i] rfl G) λ_=>bT (.str (kindOf r)) (.str "leave") (aP [r] (cy (bT (.tup af) (.int i) rfl rfl (by simp[cf M])) rfl) (jq g.c)) rfl (by simp[nW])))
noncomputable def tK (K:KL)(p:Str):KL:=(K.filter λx=>nW x.1).filter λx=>decide (a8 2 x.1=p)
def GJ (g:∀r∈af,cu r)(h:x∈tK (au af ae) p):af[x.2]? = some x.1/\cu x.1/\kindOf x.1 = "leave":=by
 obtain⟨h1,_⟩:=vN h;obtain⟨h2,h3⟩:=vN h1;exact⟨b9 h2,g _ (vL (b9 h2)),RV h3⟩
def Ei {af:LD}(g:∀r∈af,cu r)(hl:af.length<=60)(ae:Int)(p:Str):la [.tup af,.int ae,.str p]=lT ((tK (au af ae) p).map λx=>.int x.2):=by
 have M:=c6 af ae;have h1:=fZ (fi:=bP (fA cE (fV 0 (fV 1 aj)))) (nT:=1) (cap:=[0,1]) (tg:=dF 0) (c:=aW (fA gt (fV 1 (fV 2 (fV 0 aj))))) (fe:=am 0)
  (ρ:=[sT af,sI ae,sS p,none]) (au af ae) (λx=>.int x.2) (λx=>nW x.1) (λx=>.int x.2)
  (by show(fA cE _ _).bind _=_;rw[aP [.tup af,.int ae] rfl (lg af (λr O=>(g r O).c.rp) (by omega) ae)];rfl) (by omega) λx hx=>by
   have hk:decide (bo x.1<=ae)=true:=(vN hx).2;have:=mD (ae:=ae) (b9 hx) (g _ (vL (b9 hx)));rw[hk,Bool.true_and]at this;exact⟨_,rfl,dj (aP [.tup af,.int ae,.int x.2] rfl this),λ_=>⟨false,rfl⟩⟩
 have G:bB (((au af ae).filter λx=>nW x.1).map λx=>D.int x.2)=true:=ce λd hd=>by obtain⟨x,_,rfl⟩:=vO hd;rfl
 refine aw rfl (cI h1 G (ax ?_));refine fZ (fi:=bP (am 3)) (nT:=1) (cap:=[2,0]) (tg:=dF 0) (c:=aW (f2 cY (fA av (ag (f2 bH (am 2) (am 0)) (ag (fS "person") aj))) (am 1))) (fe:=am 0)
  (ρ:=[sT af,sI ae,sS p,lT (((au af ae).filter λx=>nW x.1).map λx=>.int x.2)]) ((au af ae).filter λx=>nW x.1) (λx=>.int x.2) (λx=>decide (a8 2 x.1=p)) (λx=>.int x.2) (by simp) (vR (vM _ _) (by omega)) λx hx=>?_
 obtain⟨h2,h3⟩:=vN hx;obtain⟨a,d,b,q,m,st,f,e,_⟩:=pL (g _ (vL (b9 h2))) (RV h3);refine⟨[sI x.2,sS p,sT af],rfl,dj (bT (.str (a8 2 x.1)) (.str p) (aP [x.1,.str "person"] (cy (bT (.tup af) (.int x.2) rfl rfl (by simp[cf (b9 h2)])) rfl) ?_) rfl (by simp)),λ_=>⟨false,rfl⟩⟩;rw[e];exact be (i:=2) cc rfl
def Ej {af:LD}(g:∀r∈af,cu r)(hl:af.length<=60)(ae:Int){G:Nat}{r:D}(M:af[G]? = some r)(T:kindOf r∈fu):
  jo [.tup af,.int ae,.int G]=lT (((tK (au af ae) (cR r)).filter (By r G)).map λx=>.tup [.str "leave",.int x.2]):=by
 have U:=g r (vL M);have QG:=c6 af ae;have SH:(tK (au af ae) (cR r)).length<=60:=vR (vM _ _) (vR (vM _ _) (by omega));have O:bB ((tK (au af ae) (cR r)).map λx=>D.int x.2)=true:=ce λd hd=>by obtain⟨x,_,rfl⟩:=vO hd;rfl
 refine aw rfl (cI (ds:=(tK (au af ae) (cR r)).map λx=>.int x.2) (aP [.tup af,.int ae,.str (cR r)] (cy rfl (cy rfl (aN (aP [r,.str "by"] (cy (bT (.tup af) (.int G) rfl rfl (by simp[cf M])) rfl) (CN U (jY (.inl (tH T))))) rfl))) (Ei g hl ae _)) O (ax ?_));refine fZ (fi:=bP (am 3)) (nT:=1) (cap:=[0,2]) (tg:=dF 0) (c:=aW (f2 qJ (fA jb (fV 1 (fV 2 (fV 0 aj)))) (fC .non))) (fe:=fA bi (ag (fS "leave") (fV 0 aj)))
  (ρ:=[sT af,sI ae,sI G,lT ((tK (au af ae) (cR r)).map λx=>.int x.2)]) (tK (au af ae) (cR r)) (λx=>.int x.2) (By r G) (λx=>.tup [.str "leave",.int x.2]) (by simp) (by omega) λx hx=>?_
 obtain⟨h1,h2,h3⟩:=GJ g hx;obtain⟨d,e1,e2,_⟩:=J5 M h1 U h2 T h3;exact⟨[sI x.2,sT af,sI G],rfl,dj (bT d .non (aP [.tup af,.int G,.int x.2] rfl e1) rfl e2),λ_=>⟨false,aP [.str "leave",.int x.2] rfl (dq _ (by simp))⟩⟩
abbrev Bs:=Option Str×Int
noncomputable def Az:Bs->D
 | (some o,n)=>.tup [.str "office",.str o,.int n]
 | (none,n)=>.tup [.str "leave",.int n]
noncomputable def zV:Bs->List At
 | (some o,n)=>[.i n,.s ("office" : Str),.s o,.i n]
 | (none,n)=>[.i n,.s ("leave" : Str),.i n]
def GK (b:Bs):b8 (Az b)=true:=by rcases b with⟨_|o,n⟩<;>rfl
def J6 (b:Bs):bH (Az b) (.int (-1))=sI b.2:=by rcases b with⟨_|o,n⟩<;>rfl
def GL (a b:Bs):(bp (zV a) (zV b)).isSome=true:=by
 have M:("office" : Str) ≠ "leave":=by decide +kernel
 rcases a with⟨_|o,n⟩<;>rcases b with⟨_|o',G⟩
 ·show(bp [.i n,.s ("leave" : Str),.i n] [.i G,.s ("leave" : Str),.i G]).isSome=true;rw[bp];split
  ·rw[bp,if_pos rfl,bp];split
   ·rw[bp];rfl
   ·rfl
  ·rfl
 ·show(bp [.i n,.s ("leave" : Str),.i n] [.i G,.s ("office" : Str),.s o',.i G]).isSome=true;rw[bp];split
  ·rw[bp,if_neg (Ne.symm M)];rfl
  ·rfl
 ·show(bp [.i n,.s ("office" : Str),.s o,.i n] [.i G,.s ("leave" : Str),.i G]).isSome=true;rw[bp];split
  ·rw[bp,if_neg M];rfl
  ·rfl
 ·show(bp [.i n,.s ("office" : Str),.s o,.i n] [.i G,.s ("office" : Str),.s o',.i G]).isSome=true;rw[bp];split
  ·rw[bp,if_pos rfl,bp];split
   ·rw[bp];split
    ·rw[bp];rfl
    ·rfl
   ·rfl
  ·rfl
def J7 (h:zV a=zV b):a=b:=by
 rcases a with⟨_|o,n⟩<;>rcases b with⟨_|o',G⟩<;>simp[zV]at h
 ·rw[h]
 ·rw[h.1,h.2.1]
def CQ (l:List Bs):eV (l.map zV)=true:=by
 unfold eV;simp[all_eq_true,GL]
def GN (e:cM (zV a)=cM (zV b)):a=b:=J7 (o5 (CQ [a,b]) (by simp) (by simp) e)
def Vd (cs:List Cl)(r v:D):Bs:=(some (a8 0 v),GF cs r v)
def zW (K:KL)(cs:List Cl)(r:D)(G:Nat):List Bs:=((bQ K).filter (uq cs r)).map (Vd cs r)++((tK K (cR r)).filter (By r G)).map λx=>(none,(x.2:Int))
def M4 (K:KL)(cs:List Cl)(r:D)(G:Nat):List Bs:=eU (λb=>cM (zV b)) (zW K cs r G)
def Ek (hn:((bQ (au af ae)).map (a8 0)).Nodup)(cs:List Cl)(r:D)(G:Nat):(zW (au af ae) cs r G).Nodup:=by
 unfold zW;rw[nodup_append];refine⟨?_,?_,?_⟩
 ·exact pairwise_map.mpr ((List.Pairwise.sublist filter_sublist (pairwise_map.mp hn)).imp λh e=>h (vK (Prod.mk.inj e).1))
 ·refine pairwise_map.mpr ((List.Pairwise.sublist (filter_sublist.trans (filter_sublist.trans filter_sublist)) (pairwise_map.mp (fR af ae))).imp λh e=>h ?_);have:=(Prod.mk.inj e).2;omega
 ·intro a ha b hb e;obtain⟨v,_,rfl⟩:=vO ha;obtain⟨x,_,rfl⟩:=vO hb;cases (Prod.mk.inj e).1
theorem wH {α:Type}{g:α->D}{h:α->List At}:∀(l:List α),(∀x∈l,Mv (g x)=some (h x))->j9 (l.map g)=some (l.map h)
 |[],_=>rfl
 |x::l,k=>by
  rw[uY,j9,k x mX,vJ,wH l λy hy=>k y (mZ _ hy)];rfl
def CS (hl:af.length<=30)(ae:Int)(cs:List Cl)(r:D)(G:Nat):(zW (au af ae) cs r G).length<=60:=by
 have h1:((bQ (au af ae)).filter (uq cs r)).length<=30:=by
  refine vR (vM _ _) ?_;unfold bQ;rw[vI];exact vR (vM _ _) (vR (c6 af ae) hl)
 have h2:((tK (au af ae) (cR r)).filter (By r G)).length<=30:=vR (vM _ _) (vR (vM _ _) (vR (vM _ _) (vR (c6 af ae) hl)));unfold zW;rw[uZ,vI,vI];omega
def GO {f:FE}{ρ:DL.Env}{b:Bool}(l:List Bs)(hl:l.length<=60)(hn:l.Nodup)(e:f ρ=some (.lst (l.map Az),b)):Bk f (rd [] (fA bi (ag (f2 bH (am 0) (f1 D4 (fI 1))) (fV 0 aj)))) ρ=lT ((eU (λb=>cM (zV b)) l).map Az):=by
 have hm:j7 (rd [] (fA bi (ag (f2 bH (am 0) (f1 D4 (fI 1))) (fV 0 aj))) ρ) (l.map Az)=some (l.map λb=>.tup [.int b.2,Az b]):=iF l λb _=>by
  show(fA bi _ _).map _=_;rw[aP [.int b.2,Az b] (cy (bT (Az b) (.int (-1)) rfl rfl (J6 b)) (cy rfl rfl)) (dq _ (by simp))];rfl
 have hk:j9 (l.map λb=>D.tup [.int b.2,Az b])=some (l.map zV):=wH l λb _=>by rcases b with⟨_|o,n⟩<;>rfl
 have G:(l.map zV).length<64/\eV (l.map zV)=true/\True/\((l.map zV).map cM).Nodup:=by
  refine⟨by rw[vI];omega,CQ l,trivial,?_⟩;rw[uP];exact pairwise_map.mpr (List.Pairwise.imp (λh e=>h (GN e)) hn)
 unfold Bk xH;rw[e];simp only[vJ];rw[hm];simp only[vJ];rw[hk];simp only[vJ];rw[if_pos G];unfold j8;have M:((eU (λb=>cM (zV b)) l).map λb=>(zV b,Az b))=eU (λp:List At×D=>cM p.1) (l.map λb=>(zV b,Az b)):=by
  refine kJ _ (λx hx y hy e=>?_) ((bF _ _).map _) ?_
  ·obtain⟨a,_,rfl⟩:=vO hx;obtain⟨b,_,rfl⟩:=vO hy;rw[GN e]
  ·exact pairwise_map.mpr (iq _ _)
 rw[zip_map',←M,uP];rfl
section
variable {af:LD}(g:∀r∈af,cu r) (hl:af.length<=30) (ae:Int) (hn:((bQ (au af ae)).map (a8 0)).Nodup)
include g hl hn
theorem zX (cs:List Cl)(Qk:cs.length<=60){G:Nat}{r:D}(O:af[G]? = some r)(U:kindOf r∈fu)(hk:bo r<=ae):fF [.tup af,.int ae,.lst (cs.map ba),.int G]=lT ((M4 (au af ae) cs r G).map Az):=by
 have gr:=g r (vL O);have wd:∀(ρ:DL.Env)(j:Nat),ρ[0]? = some (sT af)->ρ[j]? = some (sI G)->fA aD (ag (f2 bH (am 0) (am j)) aj) ρ=sS (kindOf r):=λρ j h0 h2=>aP [r] (cy (bT (.tup af) (.int G) (by simp[h0]) (by simp[h2]) (by simp[cf O])) rfl) (jq gr.c);have QJ:cC [.tup af,.int ae,.int G]=sO true:=by
  obtain⟨a,k,ay,rfl,d⟩:=id gr;rw[lh O ae,Au (show a<=ae from hk)]
 have SN:dB [.tup af,.int ae,.int G]=sO (decide (kindOf r∈[("paper" : Str),"like","copy"])):=aw rfl (ax (dc (p:=true) (aP [.tup af,.int ae,.int G] rfl QJ) λ_=>bT (.str (kindOf r)) (.tup ([("paper" : Str),"like","copy"].map .str)) (wd _ 2 rfl rfl) rfl (nM _ _)));have hb:eG [.tup af,.int ae,.int G]=sO true:=by
  refine(aw rfl (ax (iX (aP [.tup af,.int ae,.int G] rfl (mD O gr)) λ_=>aP [.tup af,.int ae,.int G] rfl SN))).trans ?_;rw[Au hk,Bool.true_and];have:∀k∈fu,(decide (k = "leave") || decide (k∈[("paper" : Str),"like","copy"]))=true:=by decide +kernel
  unfold nW;rw[this _ U]
 have Sw:decide (kindOf r = "copy")=false:=by
  have:∀k∈fu,decide (k = "copy")=false:=by decide +kernel
  exact this _ U
 have T:=CS hl ae cs r G;have Ng:bB ((zW (au af ae) cs r G).map Az)=true:=ce λd hd=>by obtain⟨b,_,rfl⟩:=vO hd;exact GK b
 refine aw rfl (aM (ca (p:=true) (dj (aP [.tup af,.int ae,.int G] rfl hb))) (aM (bU (a:=kindOf r) (bb:=false) (wd _ 3 rfl rfl) Sw) (cI (ds:=(zW (au af ae) cs r G).map Az) ?_ Ng (ax (GO (b:=false) _ T (Ek hn cs r G) rfl)))));have ho:=Eh g (by omega) ae hn cs Qk O U;have hv:=Ej g (by omega) ae O U;refine cm (x:=.lst (((bQ (au af ae)).filter (uq cs r)).map (M2 cs r))) (y:=.lst (((tK (au af ae) (cR r)).filter (By r G)).map λx=>.tup [.str "leave",.int x.2])) (b1:=true) (b2:=true) (aP [.tup af,.int ae,.lst (cs.map ba),.int G] rfl ho) (aP [.tup af,.int ae,.int G] rfl hv) ?_;have M:=T;unfold zW at M ⊢;rw[uZ,vI,vI]at M;refine(if_pos (eB (by rw[vI,vI];omega))).trans ?_;rw[uW,uP,uP];rfl
end
def M5 (K:KL)(c r:D):Bool:=decide (cR c=cR r) || (!decide (kindOf r = "copy") && (bQ K).any λv=>decide (iP v &&& iP r=iP r) && iI (b7 K) (a8 0 v) (a8 3 v) (cR c) (aF c))
def Bz {α:Type}(l:List α)(p f:α->Bool):((l.filter p).map f).any id=l.any λx=>p x && f x:=by
 induction l with
 |nil=>rfl
 |cons x l G=>
  rw[filter_cons,any_cons,←G];cases h:p x with
  |true=>rw[if_pos rfl,uY,any_cons];rfl
  |false=>rw[if_neg (by decide)];rfl
def M6 {af:LD}(g:∀r∈af,cu r)(hl:af.length<=60)(ae:Int)(lq:(b7 (au af ae)).length<=60)(hn:((bQ (au af ae)).map (a8 0)).Nodup){M O:Nat}{c r:D}(hc:af[M]? = some c)(hr:af[O]? = some r)(kc:kindOf c = "call")(kr:kindOf r∈cr):
  mz [.tup af,.int ae,.lst ((b7 (au af ae)).map ba),.int M,.int O]=sO (M5 (au af ae) c r):=by
 have gC:gM af:=⟨hl,λr hr=>(g r hr).c⟩;have gc:=g c (vL hc);have gr:=g r (vL hr);have ac:=cf hc;have ar:=cf hr;have pc:=CN gc (jY (.inr kc));have pr:=CN gr (jY (.inl kr));have T:∀v∈bQ (au af ae),cu v/\bj v=true:=λv hv=>by
  obtain⟨x,hx,rfl⟩:=vO hv;obtain⟨h1,h2⟩:=vN hx;exact⟨g _ (vL (b9 h1)),h2⟩
 have XX:(bQ (au af ae)).length<=60:=by
  unfold bQ;rw[vI];exact vR (vM _ _) (vR (c6 af ae) hl)
 have Kh:aR [c]=sI (aF c):=by
  have:=sK gc.c;unfold um at this;rwa [if_neg (by unfold bj;rw[kc];decide +kernel)]at this
 have UI:∀(v7:OB),aW (f2 cY (am 6) (fA av (fV 5 (ag (fS "by") aj)))) [sT af,sI ae,sL ((b7 (au af ae)).map ba),sI M,sI O,some (r,false),sS (cR c),v7]=some (decide (cR c=cR r)):=λv7=>dj (bT (.str (cR c)) (.str (cR r)) rfl (aP [r,.str "by"] rfl pr) (by simp));have UJ:∀(v7:OB),aW (f2 cY (fA aD (fV 5 aj)) (fS "copy")) [sT af,sI ae,sL ((b7 (au af ae)).map ba),sI M,sI O,some (r,false),sS (cR c),v7]=some (decide (kindOf r = "copy")):=λv7=>bU (a:=kindOf r) (bb:=false) (aP [r] rfl (jq gr.c)) rfl;refine aw rfl (iz r (bT (.tup af) (.int O) rfl rfl (by simp[ar])) gr.flat (iz (.str (cR c)) (aP [c,.str "by"] (cy (bT (.tup af) (.int M) rfl rfl (by simp[ac])) rfl) pc) rfl ?_));unfold M5;cases h1:decide (cR c=cR r) with
 |true=>exact bw ((UI none).trans (by rw[h1])) (ax rfl)
 |false=>
  refine aM ((UI none).trans (by rw[h1])) ?_;cases h2:decide (kindOf r = "copy") with
  |true=>exact bw ((UJ none).trans (by rw[h2])) (ax rfl)
  |false=>
   have kb:kindOf r∈fu:=by
    have E6:=of_decide_eq_false h2;have:∀k∈cr,k ≠ "copy"->k∈fu:=by decide +kernel
    exact this _ kr E6
   have pm:=ye gr kb;refine aM ((UJ none).trans (by rw[h2])) ?_;have G:=fZ (fi:=rz (fA gE (fV 0 (fV 1 aj)))) (nT:=1) (cap:=[5]) (tg:=dF 0) (c:=aW (fA iD (ag (fA av (fV 0 (ag (fS "matters") aj))) (ag (fA av (fV 1 (ag (fS "matters") aj))) aj)))) (fe:=am 0)
    (ρ:=[sT af,sI ae,sL ((b7 (au af ae)).map ba),sI M,sI O,some (r,false),sS (cR c),none]) (bQ (au af ae)) id (λv=>decide (iP v &&& iP r=iP r)) id
    (by show(fA gE _ _).bind _=_;rw[aP [.tup af,.int ae] rfl (sZ gC ae),tF hn];simp) (by omega) λv hv=>by
     obtain⟨gv,U⟩:=T v hv;exact⟨[some (v,false),some (r,false)],rfl,dj (aP [.int (iP v),.int (iP r)] (aN (aP [v,.str "matters"] rfl (CM gv U)) (aN (aP [r,.str "matters"] rfl pm) rfl)) (wG _ _)),λ_=>⟨false,rfl⟩⟩
   rw[map_id]at G;refine cI (ds:=(bQ (au af ae)).filter λv=>decide (iP v &&& iP r=iP r)) G (ce λv hv=>(T v (vN hv).1).1.flat) (ax ?_);have Ql:=rK (fi:=bP (am 7)) (nT:=1) (cap:=[2,6,0,3]) (tg:=dF 0) (fe:=fA cK (fV 1 (fV 0 (fV 2 (ag (fA aR (ag (f2 bH (am 3) (am 4)) aj)) aj)))))
    (ρ:=[sT af,sI ae,sL ((b7 (au af ae)).map ba),sI M,sI O,some (r,false),sS (cR c),lT ((bQ (au af ae)).filter λv=>decide (iP v &&& iP r=iP r))]) ((bQ (au af ae)).filter λv=>decide (iP v &&& iP r=iP r)) id (λv=>.bl (iI (b7 (au af ae)) (a8 0 v) (a8 3 v) (cR c) (aF c)))
    (by simp) (vR (vM _ _) (by omega)) λv hv=>by
     obtain⟨gv,U⟩:=T v (vN hv).1;obtain⟨a,o,rl,m,f,rfl,_,_⟩:=tE gv U;exact⟨[some (row a ("root" : Str) [.str o,.int m,.int f,.str rl],false),sL ((b7 (au af ae)).map ba),sS (cR c),sT af,sI M],rfl,false,aP [.lst ((b7 (au af ae)).map ba),row a ("root" : Str) [.str o,.int m,.int f,.str rl],.str (cR c),.int (aF c)] (cy rfl (cy rfl (cy rfl (aN (aP [c] (cy (bT (.tup af) (.int M) rfl rfl (by simp[ac])) rfl) Kh) rfl)))) (xW _ lq _ _)⟩
   refine(aP [_] (aN Ql rfl) ?_);show(ud _).map _=_;rw[rL,map_some,Bz];rfl
def B1 (g:cu r)(h:kindOf r = "call"):∃a d b,∃n:Nat,r=row a ("call" : Str) [.int d,.str b,.int n]:=by
 obtain⟨a,k,ay,rfl,d⟩:=g;have hk:k = "call":=h;clear h;cases d with
 |copy k G d b n=>subst hk;exact⟨a,d,b,n,rfl⟩
 |root=>exact dP hk
 |named=>exact dP hk
 |chosen=>exact dP hk
 |heir=>exact dP hk
 |three k G=>rcases G with rfl|rfl|rfl<;>exact dP hk
 |leave=>exact dP hk
 |paper k G=>rcases G with rfl|rfl<;>exact dP hk
def J8 (af:LD)(ae:Int)(G:Nat)(r:D)(day:Int)(c:D):Bool:=decide (kindOf c = "call") && (decide (gN 2 c=G) && (decide (aF c<=day) && (jp af ae c && M5 (au af ae) c r)))
def M7 (e:f ρ=some (.str a,bb)):aW (f2 xn f (fS b)) ρ=some (!decide (a=b)):=dj (cm (x:=.str a) (y:=.str b) (b1:=bb) (b2:=false) e rfl (by simp))
section
variable {af:LD}(g:∀r∈af,cu r) (hl:af.length<=60) (ae:Int) (lq:(b7 (au af ae)).length<=60) (hn:((bQ (au af ae)).map (a8 0)).Nodup)
include g hl lq hn
theorem zY {M G:Nat}{c r:D}(hc:af[M]? = some c)(U:af[G]? = some r)(kr:kindOf r∈cr)(day:Int):jV [.tup af,.int ae,.lst ((b7 (au af ae)).map ba),.int M,.int G,.int day]=sO (J8 af ae G r day c):=by
 have T:=g c (vL hc);have ac:=cf hc;have tw:aW (f2 xn (fA aD (fV 6 aj)) (fS "call")) [sT af,sI ae,sL ((b7 (au af ae)).map ba),sI M,sI G,sI day,some (c,false)]=some (!decide (kindOf c = "call")):=M7 (a:=kindOf c) (bb:=false) (aP [c] rfl (jq T.c));refine aw rfl (iz c (bT (.tup af) (.int M) rfl rfl (by simp[ac])) T.flat ?_);unfold J8;by_cases hk:kindOf c = "call"
 ·obtain⟨a,d,b,n,ec⟩:=B1 T hk;have e1:gN 2 c=(n:Int):=by rw[ec];rfl
  have e2:aF c=d:=by rw[ec];rfl
  have po:av [c,.str "of"]=sI n:=by rw[ec];exact be (i:=2) cc rfl
  have pd:aR [c]=sI d:=by
   have:=sK T.c;unfold um at this;rwa [if_neg (by unfold bj;rw[hk];decide +kernel),e2]at this
  have t2:aW (f2 xn (fA av (fV 6 (ag (fS "of") aj))) (am 4)) [sT af,sI ae,sL ((b7 (au af ae)).map ba),sI M,sI G,sI day,some (c,false)]=some (!decide ((n:Int)=G)):=dj (bT (.int n) (.int G) (aP [c,.str "of"] rfl po) rfl (by simp));have t3:aW (f2 Hz (fA aR (fV 6 aj)) (am 5)) [sT af,sI ae,sL ((b7 (au af ae)).map ba),sI M,sI G,sI day,some (c,false)]=some (decide (day<d)):=dj (bT (.int d) (.int day) (aP [c] rfl pd) rfl rfl);have O:=de tw λ_=>de t2 λ_=>t3;rw[e1,e2,Au hk,Bool.true_and];rw[Au hk]at O;by_cases h1:(n:Int)=G
  ·by_cases h2:d<=day
   ·rw[Au h1,Au h2,Bool.true_and,Bool.true_and];rw[Au h1,Pz (by omega)]at O;exact aM O (ax (dc (aP [.tup af,.int ae,.int M] rfl (sJ af (λr U=>(g r U).c.rp) (by omega) ae hc)) λ_=>aP [.tup af,.int ae,.lst ((b7 (au af ae)).map ba),.int M,.int G] rfl (M6 g hl ae lq hn hc U hk kr)))
   ·rw[Pz h2,Bool.false_and,Bool.and_false];rw[Au h1,Au (show day<d by omega)]at O;exact bw O (ax rfl)
  ·rw[Pz h1,Bool.false_and];rw[Pz h1]at O;exact bw O (ax rfl)
 ·rw[Pz hk,Bool.false_and];refine bw (de (p:=true) (q:=false) (tw.trans (by rw[Pz hk];rfl)) λh=>by cases h) (ax rfl)
def oH (af:LD)(ae:Int)(G:Nat)(r:D)(day:Int):LN:=if bo r<=ae/\kindOf r∈cr then ((au af ae).filter λx=>J8 af ae G r day x.1).map (·.2)else []
theorem zZ {G:Nat}{r:D}(M:af[G]? = some r)(day:Int):m8 [.tup af,.int ae,.lst ((b7 (au af ae)).map ba),.int G,.int day]=lT ((oH af ae G r day).map λn:Nat=>.int n):=by
 have gr:=g r (vL M);have ar:=cf M;have T:cC [.tup af,.int ae,.int G]=sO (decide (bo r<=ae)):=by
  obtain⟨a,k,ay,e,d⟩:=gr;rw[e]at M;rw[show bo r=a by rw[e];rfl];exact lh M ae
 have wd:∀ρ:DL.Env,ρ[0]? = some (sT af)->ρ[2]? = some (sI G)->fA aD (ag (f2 bH (am 0) (am 2)) aj) ρ=sS (kindOf r):=λρ h0 h2=>aP [r] (cy (bT (.tup af) (.int G) (by simp[h0]) (by simp[h2]) (by simp[ar])) rfl) (jq gr.c);have U:gt [.tup af,.int ae,.int G]=sO (decide (bo r<=ae) && decide (kindOf r = "leave")):=aw rfl (ax (dc (aP [.tup af,.int ae,.int G] rfl T) λ_=>bT (.str (kindOf r)) (.str "leave") (wd _ rfl rfl) rfl (by simp)));have SN:dB [.tup af,.int ae,.int G]=sO (decide (bo r<=ae) && decide (kindOf r∈[("paper" : Str),"like","copy"])):=aw rfl (ax (dc (aP [.tup af,.int ae,.int G] rfl T) λ_=>bT (.str (kindOf r)) (.tup ([("paper" : Str),"like","copy"].map .str)) (wd _ rfl rfl) rfl (nM _ _)));have hb:eG [.tup af,.int ae,.int G]=sO (decide (bo r<=ae/\kindOf r∈cr)):=by
  refine(aw rfl (ax (iX (aP [.tup af,.int ae,.int G] rfl U) λ_=>aP [.tup af,.int ae,.int G] rfl SN))).trans ?_;congr 3;simp only[cr,mem_cons,not_mem_nil,or_false];by_cases h1:bo r<=ae
  ·simp[h1]
  ·simp[h1]
 unfold oH;by_cases hx:bo r<=ae/\kindOf r∈cr
 ·rw[if_pos hx];refine aw rfl (aM (ca (p:=true) (dj (aP [.tup af,.int ae,.int G] rfl (by rw[hb,Au hx])))) (ax ?_));have O:=fZ (fi:=bP (fA cE (fV 0 (fV 1 aj)))) (nT:=1) (cap:=[0,1,2,3,4]) (tg:=dF 0) (c:=aW (fA jV (fV 1 (fV 2 (fV 3 (fV 0 (fV 4 (fV 5 aj)))))))) (fe:=am 0)
   (ρ:=[sT af,sI ae,sL ((b7 (au af ae)).map ba),sI G,sI day]) (au af ae) (λx=>.int x.2) (λx=>J8 af ae G r day x.1) (λx=>.int x.2)
   (by show(fA cE _ _).bind _=_;rw[aP [.tup af,.int ae] rfl (lg af (λr M=>(g r M).c.rp) (by omega) ae)];rfl) (vR (c6 af ae) (by omega)) λx hx2=>by
    exact⟨_,rfl,dj (aP [.tup af,.int ae,.lst ((b7 (au af ae)).map ba),.int x.2,.int G,.int day] rfl (zY g hl ae lq hn (b9 hx2) M hx.2 day)),λ_=>⟨false,rfl⟩⟩
  rw[uP];exact O
 ·rw[if_neg hx];exact aw rfl (bw (ca (p:=false) (dj (aP [.tup af,.int ae,.int G] rfl (by rw[hb,Pz hx])))) (ax (aP [] rfl (fH _ (by simp)))))
omit lq in
end
noncomputable def fx:LS:=[("paper" : Str),"like","copy"]
noncomputable def GP (w:Str):Bs->D
 | (some o,n)=>.tup [.str "office",.str o,.int n]
 | (none,n)=>.tup [.str w,.int n]
def M8 (r:D):Str:=if kindOf r = "copy" then ("copy" : Str)else ("leave" : Str)
def El (b:Bs):GP ("leave" : Str) b=Az b:=by rcases b with⟨_|o,n⟩<;>rfl
def Em {af:LD}{n:Nat}(h:af.length<=n)(ae:Int):cC [.tup af,.int ae,.int n]=sO false:=by
 refine aw rfl (ax (dc (p:=false) (q:=false) (b1:=false) ?_ λz=>by cases z));have h1:¬(n:Int)<af.length:=by omega
 exact(zv (p:=true) (q:=false) (x:=.int 0) (y:=.int n) (z:=.int af.length) (b1:=false) (b2:=false) (b3:=false) (b4:=false) rfl rfl (by simp) (by simp) λ_=>by simp[h1])
def GQ {af:LD}{i:Nat}{r:D}(G:af[i]? = some r)(g:cu r)(ae:Int):cC [.tup af,.int ae,.int i]=sO (decide (bo r<=ae)):=by
 obtain⟨a,k,ay,rfl,d⟩:=g;exact lh G ae
def CT {af:LD}{i:Nat}{r:D}(G:af[i]? = some r)(g:cu r){ρ:DL.Env}{j:Nat}(h0:ρ[0]? = some (sT af))(hj:ρ[j]? = some (sI i)):fA aD (ag (f2 bH (am 0) (am j)) aj) ρ=sS (kindOf r) :=
 aP [r] (cy (bT (.tup af) (.int i) (by simp[h0]) (by simp[hj]) (by simp[cf G])) rfl) (jq g.c)
def tL {af:LD}{i:Nat}{r:D}(G:af[i]? = some r)(g:cu r)(ae:Int):dB [.tup af,.int ae,.int i]=sO (decide (bo r<=ae) && decide (kindOf r∈fx)) :=
 aw rfl (ax (dc (aP [.tup af,.int ae,.int i] rfl (GQ G g ae)) λ_=>bT (.str (kindOf r)) (.tup (fx.map .str)) (CT G g rfl rfl) rfl (nM _ _)))
def Aa {af:LD}{i:Nat}{r:D}(G:af[i]? = some r)(g:cu r)(ae:Int):eG [.tup af,.int ae,.int i]=sO (decide (bo r<=ae) && decide (kindOf r∈cr)):=by
 refine(aw rfl (ax (iX (aP [.tup af,.int ae,.int i] rfl (mD G g)) λ_=>aP [.tup af,.int ae,.int i] rfl (tL G g ae)))).trans ?_;congr 3;unfold nW;simp only[cr,fx,mem_cons,not_mem_nil,or_false];by_cases h1:bo r<=ae
 ·simp[h1]
 ·simp[h1]
def tM (af:LD)(ae:Int)(r:D)(G n:Nat):Bool:=match af[n]? with
 |none=>false
 |some q=>(decide (bo q<=ae) && decide (kindOf q∈fx)) && fQ (q,n) (r,G)
def tN (g:cu r)(h:kindOf r = "copy"):∃a d b,∃n:Nat,r=row a ("copy" : Str) [.int d,.str b,.int n]:=by
 obtain⟨a,k,ay,rfl,d⟩:=g;have hk:k = "copy":=h;clear h;cases d with
 |copy k G d b n=>subst hk;exact⟨a,d,b,n,rfl⟩
 |root=>exact dP hk
 |named=>exact dP hk
 |chosen=>exact dP hk
 |heir=>exact dP hk
 |three k G=>rcases G with rfl|rfl|rfl<;>exact dP hk
 |leave=>exact dP hk
 |paper k G=>rcases G with rfl|rfl<;>exact dP hk
def tO (h:kindOf r∈fx):bj r=false:=by
 have:∀k∈fx,decide (k = "root")=false:=by decide +kernel
 exact this _ h
def En {af:LD}(g:∀r∈af,cu r)(ae:Int){G:Nat}{r:D}(O:af[G]? = some r)(T:kindOf r = "copy"):∃n:Nat,gN 2 r=n/\jU [.tup af,.int ae,.int G]=lT ((if tM af ae r G n=true then [((none,(n:Int)):Bs)]else []).map (GP ("copy" : Str))):=by
 have U:=g r (vL O);obtain⟨a,d,b,n,er⟩:=tN U T;have nr:bj r=false:=tO (by rw[T];decide +kernel);have po:av [r,.str "of"]=sI n:=by rw[er];exact be (i:=2) cc rfl
 refine⟨n,by rw[er];rfl,?_⟩;let E:DL.Env:=[sT af,sI ae,sI G,sI n];refine aw rfl (iz (.int n) (aP [r,.str "of"] (cy (bT (.tup af) (.int G) rfl rfl (by simp[cf O])) rfl) po) rfl ?_);have M:dm (aW (fA dB (fV 0 (fV 1 (fV 3 aj))))) (aW (fA gu (fV 0 (fV 3 (fV 2 aj))))) E=some (tM af ae r G n):=by
  unfold tM;cases hq:af[n]? with
  |none=>
   have hn:af.length<=n:=List.getElem?_eq_none_iff.mp hq;exact cJ (p:=false) (q:=false) (dj (aP [.tup af,.int ae,.int n] rfl (aw rfl (ax (dc (p:=false) (q:=false) (aP [.tup af,.int ae,.int n] rfl (Em hn ae)) λz=>by cases z))))) λz=>by cases z
  |some q=>
   have gq:=g q (vL hq);exact cJ (dj (aP [.tup af,.int ae,.int n] rfl (tL hq gq ae))) λh=>by
    rw[vC]at h;exact dj (aP [.tup af,.int n,.int G] rfl (zU hq O gq U (tO (RV h.2)) nr))
 cases hv:tM af ae r G n with
 |true=>
  rw[hv]at M;rw[if_pos rfl];exact bw M (ax (aP [.tup [.str "copy",.int n]] (cy (aP [.str "copy",.int n] rfl (dq _ (by simp))) rfl) (fH _ (by simp))))
 |false=>
  rw[hv]at M;rw[if_neg (by decide)];exact aM M (ax (aP [] rfl (fH _ (by simp))))
def tP (af:LD)(ae:Int)(cs:List Cl)(x:D×Nat):List Bs:=if kindOf x.1 = "copy" then (if tM af ae x.1 x.2 (gN 2 x.1).toNat=true then [(none,gN 2 x.1)]else [])else M4 (au af ae) cs x.1 x.2
section
variable {af:LD}(g:∀r∈af,cu r) (hl:af.length<=30) (ae:Int) (hn:((bQ (au af ae)).map (a8 0)).Nodup)
include g hl hn
theorem J9 (cs:List Cl)(T:cs.length<=60){M:Nat}{r:D}(O:af[M]? = some r)(U:kindOf r∈cr)(hk:bo r<=ae):fF [.tup af,.int ae,.lst (cs.map ba),.int M]=lT ((tP af ae cs (r,M)).map (GP (M8 r))):=by
 have gr:=g r (vL O);unfold tP M8;by_cases G:kindOf r = "copy"
 ·rw[if_pos G,if_pos G];obtain⟨n,e1,e2⟩:=En g ae O G;rw[e1,toNat_natCast];refine aw rfl (aM (ca (p:=true) (dj (aP [.tup af,.int ae,.int M] rfl ((Aa O gr ae).trans (by rw[Au hk,Au U];rfl))))) (bw (bU (a:=kindOf r) (bb:=false) (CT O gr rfl rfl) (Au G)) (ax (aP [.tup af,.int ae,.int M] rfl e2))))
 ·rw[if_neg G,if_neg G];have kb:kindOf r∈fu:=by
   have:∀k∈cr,k ≠ "copy"->k∈fu:=by decide +kernel
   exact this _ U G
  rw[show GP ("leave" : Str)=Az from funext El];exact zX g hl ae hn cs T O kb hk
end
def M9 (e:f (jz ρ)=some (d,b))(k:h (ρ.set i (some (d,false)))=r):aA (yy i f) h ρ=r:=fj (ρ':=ρ.set i (some (d,false))) (by simp only[yy,e,map_some]) k
def CU (e:ρ[i]? = some (some (.dk ks vs,b))):gT i ρ=some (.rt (.dk ks vs) false):=by simp[gT,e]
noncomputable def kN (x:D×Nat):eQ:=.inl (x.2:Int)
def GS (af:LD)(ae day:Int)(x:D×Nat):Bool:=(jp af ae x.1 && decide (aF x.1<=day)) && (oH af ae x.2 x.1 day).isEmpty
def JB {α:Type}(l:List α)(f:α->D):decide ((((l.map f).length:Nat):Int)=0)=l.isEmpty:=by
 cases l with
 |nil=>rfl
 |cons a l=>rw[uY,vE];exact Pz (by omega)
noncomputable def nX (af:LD)(ae day:Int)(l:KL):KL:=l.filter λx=>decide (kindOf x.1∈cr) && GS af ae day x
section
variable {af:LD}(g:∀r∈af,cu r) (hl:af.length<=30) (ae:Int) (hn:((bQ (au af ae)).map (a8 0)).Nodup)
include g hl hn
theorem MA (O:(b7 (au af ae)).length<=60){G:Nat}{r:D}(M:af[G]? = some r)(kr:kindOf r∈cr)(day:Int):nI [.tup af,.int ae,.lst ((b7 (au af ae)).map ba),.int G,.int day]=sO (GS af ae day (r,G)):=by
 have gr:=g r (vL M);have nr:bj r=false:=by
  have:∀k∈cr,decide (k = "root")=false:=by decide +kernel
  exact this _ kr
 let E:DL.Env:=[sT af,sI ae,sL ((b7 (au af ae)).map ba),sI G,sI day];have t1:aW (fA gn (fV 0 (fV 1 (fV 3 aj)))) E=some (jp af ae r):=dj (aP [.tup af,.int ae,.int G] rfl (sJ af (λr M=>(g r M).c.rp) (by omega) ae M));have t2:aW (f2 Hz (fA aR (ag (f2 bH (am 0) (am 3)) aj)) (am 4)) E=some (decide (day<aF r)):=dj (bT (.int (aF r)) (.int day) (aP [r] (cy (bT (.tup af) (.int G) rfl rfl (by simp[cf M])) rfl) (tI gr nr)) rfl rfl);have T:=de (ca t1) λ_=>t2;have e:(!jp af ae r || decide (day<aF r)) = !(jp af ae r && decide (aF r<=day)):=by
  rw[Bool.not_and];congr 1;rw[←decide_not];congr 1;rw[Int.not_le]
 rw[e]at T;unfold GS;cases U:(jp af ae r && decide (aF r<=day)) with
 |false=>
  rw[U]at T;exact aw rfl (bw T (ax rfl))
 |true=>
  rw[U]at T;refine aw rfl (aM T (ax ?_));rw[Bool.true_and,←JB (oH af ae G r day) λn:Nat=>.int n];exact bT (.int (((oH af ae G r day).map λn:Nat=>D.int n).length:Nat)) (.int 0) (aP [.lst ((oH af ae G r day).map λn:Nat=>.int n)] (aN (aP [.tup af,.int ae,.lst ((b7 (au af ae)).map ba),.int G,.int day] rfl (zZ g (by omega) ae O hn M day)) rfl) rfl) rfl (by simp)
theorem GU (ho:(cO (au af ae)).length<=60)(day:Int):xP [.tup af,.int ae,.int day]=sF (.dk ((nX af ae day (cO (au af ae))).map kN) ((nX af ae day (cO (au af ae))).map λx=>.lst ((tP af ae (b7 (au af ae)) x).map (GP (M8 x.1))))):=by
 have gC:gM af:=⟨by omega,λr T=>(g r T).c⟩;obtain⟨ec,M⟩:=Ef (af:=af) gC ae ho;have eL:eE [.tup af,.int ae]=lT ((cO (au af ae)).map λx=>.int x.2):=pH gC ae;generalize U:b7 (au af ae)=cs at ec M ⊢;have G:∀x∈cO (au af ae),x∈au af ae:=λx hx=>(vN ((bF _ _).mem_iff.mp hx)).1;have Nh:((cO (au af ae)).map (·.2)).Nodup:=oF (fR af ae);generalize cO (au af ae)=O at ho eL G Nh ⊢;let vD:D×Nat->D:=λx=>.lst ((tP af ae cs x).map (GP (M8 x.1)));let E:KL->OB->DL.Env:=λL v5=>[sT af,sI ae,sI day,sL (cs.map ba),some (.dk (L.map kN) (L.map vD),true),v5];obtain⟨ρ',e,v5,rfl⟩:=fg (tg:=dF 5) (g:=z8) (λj ρ=>∃v5,ρ=E (nX af ae day (O.take j)) v5) (O.map λx=>.int x.2) (E [] none) ⟨none,rfl⟩ (by
  rintro j d ρ hd ⟨v5,rfl⟩;rw[vA]at hd;obtain⟨x,hx,rfl⟩:=oY hd;have QI:=G x (vL hx);have T:=b9 QI;have QJ:bo x.1<=ae:=RV (vN QI).2;have gx:=g x.1 (vL T);have et:O.take (j+1)=O.take j++[x]:=by rw[take_add_one,hx];rfl
  have ef:nX af ae day (O.take (j+1))=nX af ae day (O.take j)++if(decide (kindOf x.1∈cr) && GS af ae day x)=true then [x]else []:=by
   unfold nX;rw[et,filter_append,filter_cons];split<;>rfl
  have UK:x.2∉(nX af ae day (O.take j)).map (·.2):=by
   have h2:((O.take (j+1)).map (·.2)).Nodup:=List.Nodup.sublist (List.Sublist.map _ (take_sublist _ _)) Nh;rw[et,uW,nodup_append]at h2;intro hm;obtain⟨y,hy,ey⟩:=vO hm;exact h2.2.2 _ (uS ⟨y,(vN hy).1,rfl⟩) _ (by simp) ey
  have Xz:(nX af ae day (O.take j)).length<=60:=vR (vM _ _) (vR (List.length_take_le' _ _) ho);generalize nX af ae day (O.take j)=L at ef UK Xz;let F:DL.Env:=E L (sI x.2);have t1:aW (fA eG (fV 0 (fV 1 (fV 5 aj)))) F=some (decide (kindOf x.1∈cr)):=dj (aP [.tup af,.int ae,.int x.2] rfl ((Aa T gx ae).trans (by rw[Au QJ,Bool.true_and])));have tt:=cJ t1 λh=>dj (f:=fA nI (fV 0 (fV 1 (fV 3 (fV 5 (fV 2 aj)))))) (aP [.tup af,.int ae,.lst (cs.map ba),.int x.2,.int day] rfl (by rw[←U];exact MA g hl ae hn (by rw[U];exact M) T (RV h) day));refine⟨F,E (L++if(decide (kindOf x.1∈cr) && GS af ae day x)=true then [x]else []) (sI x.2),rfl,.inl (Pc tt (λh=>?_) λh=>?_),sI x.2,by rw[ef]⟩
  ·rw[if_pos h];have kb:kindOf x.1∈cr:=by rw[vC]at h;exact RV h.1
   have SO:r6 4 (am 5) (fA fF (fV 0 (fV 1 (fV 3 (fV 5 aj))))) F=some (.nx (F.set 4 (some (.dk (dN (L.map kN) (kN x)) (dO (L.map kN) (L.map vD) (kN x) (vD x)),true)))):=by
    have ev:fA fF (fV 0 (fV 1 (fV 3 (fV 5 aj)))) (jz F)=some (vD x,true):=aP [.tup af,.int ae,.lst (cs.map ba),.int x.2] rfl (J9 g hl ae hn cs M T kb QJ);show((fA fF _ (jz F)).bind _)=_;rw[ev];simp only[vJ];exact if_pos (c:=(L.map kN).length<sizeLine) (dz (by rw[vI];omega))
   rw[SO];have hk:kN x∉L.map kN:=λhm=>by
    obtain⟨y,hy,ey⟩:=vO hm;exact UK (uS ⟨y,hy,by have:=Sum.inl.inj (show(Sum.inl (y.2:Int):eQ)=Sum.inl (x.2:Int)from ey);omega⟩)
   unfold dN dO;rw[if_neg hk,if_neg hk];simp[F,E]
  ·rw[h,if_neg (by decide),uQ];rfl)
 rw[vI,take_length]at e;exact aw rfl (M9 (aP [.tup af,.int ae] rfl ec) (fj (ρ':=E [] none) rfl (fj (gZ (ds:=O.map λx=>.int x.2) (by show(fA eE _ _).bind _=_;rw[aP [.tup af,.int ae] rfl eL];rfl) e) (CU (b:=true) rfl))))
end
noncomputable def nK (n:Nat):eQ:=.inl (n:Int)
noncomputable def HF:Nat->D:=λ_=>.bl true
noncomputable def lW (S:LN)(b:Bs):Bool:=b.1.isSome || S.any λn=>decide ((n:Int)=b.2)
noncomputable def iM (S:LN)(p:Nat×List Bs):LN:=if p.2.any (lW S)=true then S++[p.1]else S
noncomputable def jr (l:List (Nat×List Bs)):LN:=l.foldl iM []
theorem Ab (n:Int):∀S:LN,(cH (S.map nK) (S.map HF) (.inl n)).isSome=S.any λm=>decide ((m:Int)=n)
 |[]=>rfl
 |m::S=>by
  rw[uY,uY,cH,any_cons];by_cases h:(m:Int)=n
  ·rw[if_pos (show nK m=.inl n by unfold nK;rw[h]),Au h];rfl
  ·rw[if_neg (show ¬nK m=.inl n from λz=>h (Sum.inl.inj z)),Pz h,Ab n S];rfl
def GV (hw:decide (w=("office" : Str))=false)(S:LN)(b:Bs):nJ [GP w b,.dk (S.map nK) (S.map HF)]=sO (lW S b):=by
 unfold lW;rcases b with⟨_|o,n⟩
 ·refine aw rfl (ax (iX (p:=false) (b1:=false) (bT (.str w) (.str "office") rfl rfl (by simp[of_decide_eq_false hw])) λ_=>bT (.int n) (.dk (S.map nK) (S.map HF)) rfl rfl ?_));show some (D.bl (cH (S.map nK) (S.map HF) (.inl n)).isSome,false)=_;rw[Ab]
 ·exact aw rfl (ax (iX (p:=true) (q:=S.any λm=>decide ((m:Int)=n)) (b1:=false) (bT (.str "office") (.str "office") rfl rfl (by simp)) λh=>by cases h))
def any_map {α:Type}(l:List α)(f:α->Bool):Fx [.lst (l.map λx=>.bl (f x))]=sO (l.any f):=by
 show(ud _).map _=_;rw[rL,map_some,List.any_map];rfl
def GW (h:m∈iM S p):m∈S∨m=p.1:=by
 unfold iM at h;split at h
 ·simpa using h
 ·exact .inl h
theorem wI:∀(l:List (Nat×List Bs))(S:LN)(m:Nat),m∈l.foldl iM S->m∈S∨m∈l.map (·.1)
 |[],_,_,h=>.inl h
 |p::l,S,m,h=>by
  rcases wI l _ m h with h|h
  ·rcases GW h with h|rfl
   ·exact .inl h
   ·exact .inr (by simp)
  ·exact .inr (mZ _ h)
abbrev Rs:=Nat×Str×List Bs
noncomputable def KO (p:Rs):D:=.lst (p.2.2.map (GP p.2.1))
noncomputable def CV (p:Rs):Nat×List Bs:=(p.1,p.2.2)
def GX (l:List Rs)(hl:l.length<=60)(hw:∀p∈l,decide (p.2.1 = "office")=false)(hb:∀p∈l,p.2.2.length<=100)(hn:(l.map (·.1)).Nodup):xQ [.dk (l.map λp=>nK p.1) (l.map KO)]=sF (.dk ((jr (l.map CV)).map nK) ((jr (l.map CV)).map HF)):=by
 let E:LN->OB->OB->DL.Env:=λS G M=>[sF (.dk (l.map λp=>nK p.1) (l.map KO)),some (.dk (S.map nK) (S.map HF),true),G,M];have Ex:mr (l.map λp=>nK p.1) (l.map KO)=l.map λp=>.tup [.int (p.1:Int),KO p]:=by
  unfold mr;rw[zip_map',uP];rfl
 obtain⟨ρ',e,G,M,rfl⟩:=fg (tg:=F0 [2,3]) (g:=z9) (λj ρ=>∃G M,ρ=E (jr ((l.take j).map CV)) G M) (l.map λp=>.tup [.int (p.1:Int),KO p]) (E [] none none) ⟨none,none,rfl⟩ (by
  rintro j d ρ hd ⟨G,M,rfl⟩;rw[vA]at hd;obtain⟨p,hp,rfl⟩:=oY hd;have O:=vL hp;have et:l.take (j+1)=l.take j++[p]:=by rw[take_add_one,hp];rfl
  have es:jr ((l.take (j+1)).map CV)=iM (jr ((l.take j).map CV)) (CV p):=by
   rw[et,uW];unfold jr;rw[foldl_append];rfl
  have T:p.1∉jr ((l.take j).map CV):=λhm=>by
   have h2:((l.take (j+1)).map (·.1)).Nodup:=List.Nodup.sublist (List.Sublist.map _ (take_sublist _ _)) hn;rw[et,uW,nodup_append]at h2;rcases wI _ _ _ hm with h|h
   ·cases h
   ·rw[uP]at h;exact h2.2.2 _ h _ (by simp) rfl
  have Nf:(jr ((l.take j).map CV)).length<=60:=by
   have:∀(q:List (Nat×List Bs))(S:LN),(q.foldl iM S).length<=S.length+q.length:=λq=>by
    induction q with
    |nil=>intro S;exact vT _
    |cons a q ih=>
     intro S;refine vR (ih _) ?_;unfold iM;split
     ·rw[uZ,vE,length_nil,vE];omega
     ·rw[vE];omega
   have h3:=this ((l.take j).map CV) [];rw[vI,length_take,length_nil]at h3;exact vR h3 (by omega)
  generalize jr ((l.take j).map CV)=S at es T Nf;let F:DL.Env:=E S (sI (p.1:Int)) (some (KO p,false));have hc:=rK (fi:=bP (am 3)) (nT:=1) (cap:=[1]) (tg:=dF 0) (fe:=fA nJ (fV 0 (fV 1 aj))) (ρ:=F) p.2.2 (GP p.2.1) (λb=>.bl (lW S b)) rfl (by have:=hb p O;omega) λb _=>⟨[some (GP p.2.1 b,false),sF (.dk (S.map nK) (S.map HF))],rfl,false,aP [GP p.2.1 b,.dk (S.map nK) (S.map HF)] rfl (GV (hw p O) S b)⟩;have t1:aW (fA Fx (ag (bO (bP (am 3)) 1 [1] (dF 0) gF (fA nJ (fV 0 (fV 1 aj)))) aj)) F=some (p.2.2.any (lW S)):=dj (aP [.lst (p.2.2.map λb=>.bl (lW S b))] (aN hc rfl) (any_map _ _));refine⟨F,E (iM S (CV p)) (sI (p.1:Int)) (some (KO p,false)),rfl,.inl (Pc t1 (λh=>?_) λh=>?_),_,_,by rw[es]⟩
  ·have hk:nK p.1∉S.map nK:=λhm=>by
    obtain⟨y,hy,ey⟩:=vO hm;have:=Sum.inl.inj (show(Sum.inl (y:Int):eQ)=Sum.inl (p.1:Int)from ey);exact T (by rw[show p.1=y by omega];exact hy)
   have U:zn 1 (am 2) (fC (.bl true)) F=some (.nx (F.set 1 (some (.dk (dN (S.map nK) (nK p.1)) (dO (S.map nK) (S.map HF) (nK p.1) (.bl true)),true)))):=if_pos (c:=b8 (.bl true)=true/\(S.map nK).length<sizeLine) ⟨rfl,dz (by rw[vI];omega)⟩;rw[U];unfold dN dO iM;rw[if_neg hk,if_neg hk,if_pos (show(CV p).2.any (lW S)=true from h)];simp[F,E,CV,HF]
  ·unfold iM;rw[if_neg (show ¬(CV p).2.any (lW S)=true by show ¬p.2.2.any (lW S)=true;rw[h];decide)];rfl)
 rw[vI,take_length]at e;exact aw rfl (fj (ρ':=E [] none none) rfl (fj (gZ (ds:=l.map λp=>.tup [.int (p.1:Int),KO p]) (by show some (mr _ _)=_;rw[Ex]) e) (CU (b:=true) rfl)))
theorem wJ:∀S:LN,wc (S.map nK)=some (S.map λ(n:Nat)=>(n:Int))
 |[]=>rfl
 |n::S=>by
  show(wc (S.map nK)).map _=_;rw[wJ S];rfl
theorem Ac {α G:Type}(g:α->G)(f:G->LI)(x:α):∀l:List α,oy f (g x) (l.map g)=(oy (λa=>f (g a)) x l).map g
 |[]=>rfl
 |y::r=>by
  rw[uY,oy,oy];split
  ·rw[uY,Ac g f x r]
  ·rfl
theorem wK {α G:Type}(g:α->G)(f:G->LI):∀l:List α,eU f (l.map g)=(eU (λa=>f (g a)) l).map g
 |[]=>rfl
 |x::l=>by
  show oy f (g x) (eU f (l.map g))=(oy (λa=>f (g a)) x (eU (λa=>f (g a)) l)).map g;rw[wK g f l,Ac]
def GY (n:Int)(S:LN):E2 (.int n) (S.map λ(m:Nat)=>D.int (m:Int))=S.any λm=>decide ((m:Int)=n):=by
 unfold E2;induction S with
 |nil=>rfl
 |cons m S G=>
  rw[uY,any_cons,G,any_cons];by_cases h:(m:Int)=n
  ·simp[h]
  ·simp[h,Ne.symm h]
def pM (af:LD)(ae:Int)(x:D×Nat):List Bs:=tP af ae (b7 (au af ae)) x
def bV (af:LD)(ae day:Int):LN:=jr ((nX af ae day (cO (au af ae))).map λx=>(x.2,pM af ae x))
def ga (S:LN):LD:=(ra (S.map λ(n:Nat)=>(n:Int))).map .int
def MB (r:D):decide (M8 r = "office")=false:=by
 unfold M8;split
 ·decide +kernel
 ·decide +kernel
section
variable {af:LD}(g:∀r∈af,cu r) (hl:af.length<=30) (ae:Int) (hn:((bQ (au af ae)).map (a8 0)).Nodup) (ho:(cO (au af ae)).length<=60)
include hl
theorem GZ (x:D×Nat):(pM af ae x).length<=60:=by
 unfold pM tP;split
 ·split
  ·exact(by decide:1<=60)
  ·exact uN _
 ·unfold M4;rw[(bF _ _).length_eq];exact CS hl ae _ _ _
theorem oJ (day:Int):(bV af ae day).length<=60:=by
 have:∀(q:List (Nat×List Bs))(S:LN),(q.foldl iM S).length<=S.length+q.length:=λq=>by
  induction q with
  |nil=>intro S;exact vT _
  |cons a q G=>
   intro S;refine vR (G _) ?_;unfold iM;split
   ·rw[uZ,vE,length_nil,vE];omega
   ·rw[vE];omega
 have h3:=this ((nX af ae day (cO (au af ae))).map λx=>(x.2,pM af ae x)) [];have h4:(cO (au af ae)).length<=30:=by
  unfold cO;rw[(bF _ _).length_eq];exact vR (vM _ _) (vR (c6 af ae) hl)
 have h5:(nX af ae day (cO (au af ae))).length<=30:=vR (vM _ _) h4;rw[vI,length_nil]at h3;exact vR h3 (by omega)
include g hn ho
theorem pN (day:Int):gy [.tup af,.int ae,.int day]=lT (ga (bV af ae day)):=by
 have G:=GU g hl ae hn ho day;have h4:(nX af ae day (cO (au af ae))).length<=60:=vR (vM _ _) ho;have es:=GX ((nX af ae day (cO (au af ae))).map λx=>(x.2,M8 x.1,pM af ae x)) (by rw[vI];exact h4)
  (λp hp=>by obtain⟨x,_,rfl⟩:=vO hp;exact MB _) (λp hp=>by obtain⟨x,_,rfl⟩:=vO hp;exact vR (GZ hl ae x) (by decide))
  (by rw[uP];exact List.Nodup.sublist (List.Sublist.map _ filter_sublist) (oF (fR af ae)))
 rw[uP,uP,uP]at es;refine aw rfl (ax (aP [_] (aN (aP [_] (aN (aP [.tup af,.int ae,.int day] rfl G) rfl) es) rfl) ?_));show(wc ((bV af ae day).map nK)).bind _=_;rw[wJ,vJ,if_pos (by rw[vI];have:=oJ hl ae day;omega)];rfl
end
def CW (n:Nat)(S:LN):(S.any λm=>decide ((m:Int)=(n:Int)))=decide (n∈S):=by
 rw[Bool.eq_iff_iff,List.any_eq_true,decide_eq_true_iff];constructor
 ·rintro⟨m,h,e⟩;have:=RV e;rw[show n=m by omega];exact h
 ·exact λh=>⟨n,h,Au rfl⟩
def Ad (h:aQ 40 d=true):xn d d=sO false:=by
 unfold xn;rw[if_pos ⟨h,h⟩,sC 40 _ h];rfl
def Eo (S:LN):bB (ga S)=true:=ce λd hd=>by obtain⟨n,_,rfl⟩:=vO hd;rfl
def Ha (af:LD)(ae:Int):bQ (au af ae)=af.filter λv=>bj v && decide (bo v<=ae):=by
 unfold bQ au;rw[List.filter_filter];have:∀(l:List (D×Nat))(q:D->Bool),(l.filter λx=>q x.1).map (·.1)=(l.map (·.1)).filter q:=λl q=>by rw[List.filter_map];rfl
 refine(this af.zipIdx λv=>bj v && decide (bo v<=ae)).trans ?_;rw[List.zipIdx_map_fst]
def Ae (af:LD)(ae:Int):((bQ (au af ae)).map (a8 0)).Sublist (wF af):=by
 rw[Ha];unfold wF;refine List.Sublist.map _ ?_;have:(af.filter λv=>bj v && decide (bo v<=ae))=(af.filter bj).filter λv=>decide (bo v<=ae):=by rw[List.filter_filter];congr 1;funext v;rw[Bool.and_comm]
 rw[this];exact filter_sublist
def ln (S:LN):LN:=eU (λn:Nat=>[(n:Int)]) S
def CY (S:LN):ga S=(ln S).map λ(n:Nat)=>.int (n:Int):=by
 unfold ga ra ln;rw[wK,uP];rfl
def jH {m:Nat}{S:LN}:m∈ln S↔m∈S:=(bF _ _).mem_iff
def PW (q:D)(x:Int×OI)(w:D):Prop:=∃a k d b,∃m:Nat,∃G,(k=("paper" : Str)∨k = "like")/\q=row a k (.int d::.str b::.int m::iK x::w::G)/\(w=.non∨∃s,w=.str s)
def Af (r:D):Prop:=kindOf r=("paper" : Str)∨kindOf r = "like"->∃x w,PW r x w
inductive Pb (af:List D):Nat->Nat->Nat->Prop
 |here (n:Nat) (r:D) (x:Int×Option Int) (w:D) (h:af[n]? = some r) (p:PW r x w):Pb af 0 n n
 |copy (k n m e:Nat) (a d:Int) (b:Str) (h:af[n]? = some (row a ("copy" : Str) [.int d,.str b,.int m])) (p:Pb af k m e):Pb af (k+1) n e
def pend (af:LD):Nat->Nat->Nat
 |0,n=>n
 |k+1,n=>match af[n]? with
  |some r=>if kindOf r = "copy" then pend af k (gN 2 r).toNat else n
  |none=>n
def PW.nocopy (p:PW r x w):¬kindOf r = "copy":=by
 obtain⟨a,k,d,b,m,G,hk,rfl,_⟩:=p;have:∀k:Str,k = "paper" ∨ k = "like"->¬k = "copy":=by rintro k (rfl|rfl)<;>decide +kernel
 exact this k hk
def Pb.to (p:Pb af k n e):∃r x w,af[e]? = some r/\PW r x w:=by
 induction p with
 |here n r x w h p=>exact⟨r,x,w,h,p⟩
 |copy k n m e a d b h p G=>exact G
def Pb.pend (p:Pb af k n e):∀f,k<=f->pend af f n=e:=by
 induction p with
 |here n r x w h p=>
  intro f _;cases f with
  |zero=>rfl
  |succ f=>unfold Lw.pend;rw[h];exact if_neg p.nocopy
 |copy k n m e a d b h p G=>
  intro f hf;obtain⟨f,rfl⟩:∃j,f=j+1:=⟨f - 1,by omega⟩;unfold Lw.pend;rw[h];exact(if_pos rfl).trans (G f (by omega))
def SI (af:LD)(ae:Int)(S:LN):Prop:=∀n∈S,∃r,af[n]? = some r/\bo r<=ae/\kindOf r∈cr/\(kindOf r∈fx->∃k e,k<=S.length/\Pb af k n e)
section
variable {af:LD}(g:∀r∈af,cu r) (gw:∀r∈af,Af r) (ae:Int)
include g gw
theorem JD {S:LN}(s:SI af ae S){x:D×Nat}(hx:af[x.2]? = some x.1)(hk:bo x.1<=ae)(hb:kindOf x.1∈cr):SI af ae (iM S (x.2,pM af ae x)):=by
 unfold iM;split
 ·rename_i hs;intro n hn;rcases mem_append.mp hn with hn|hn
  ·obtain⟨r,h1,h2,h3,h4⟩:=s n hn;exact⟨r,h1,h2,h3,λhp=>by obtain⟨k,e,h5,G⟩:=h4 hp;exact⟨k,e,by rw[uZ];omega,G⟩⟩
  ·cases uT hn
   refine⟨x.1,hx,hk,hb,λhp=>?_⟩;by_cases M:kindOf x.1 = "copy"
   ·obtain⟨a,d,b,m,er⟩:=tN (g _ (vL hx)) M;have hm:gN 2 x.1=m:=by rw[er];rfl
    unfold pM tP at hs;rw[if_pos M,hm,toNat_natCast]at hs;cases hv:tM af ae x.1 x.2 m with
    |false=>rw[hv]at hs;cases hs
    |true=>
     rw[hv,if_pos rfl]at hs;have O:m∈S:=by
      have T:(S.any λn=>decide ((n:Int)=(m:Int)))=true:=by simpa [lW]using hs
      rw[CW]at T;exact RV T
     obtain⟨q,h1,h2,h3,h4⟩:=s m O;unfold tM at hv;rw[h1]at hv;obtain⟨k,e,h5,G⟩:=h4 (by
      have:=(vC _ _ ▸ hv).1;exact RV (vC _ _ ▸ this).2)
     exact⟨k+1,e,by rw[uZ,length_singleton];omega,.copy k _ m e a d b (by rw[hx,←er]) G⟩
   ·obtain⟨y,w,p⟩:=gw _ (vL hx) (by
     have:∀k∈fx,k ≠ "copy"->k = "paper" ∨ k = "like":=by decide +kernel
     exact this _ hp M)
    exact⟨0,x.2,uN _,.here _ _ _ _ hx p⟩
 ·exact s
theorem CZ:∀(l:KL)(S:LN),(∀x∈l,af[x.2]? = some x.1/\bo x.1<=ae/\kindOf x.1∈cr)->SI af ae S->SI af ae ((l.map λx=>(x.2,pM af ae x)).foldl iM S)
 |[],_,_,s=>s
 |x::l,S,h,s=>by
  obtain⟨h1,h2,h3⟩:=h x (mX ..);exact CZ l _ (λy hy=>h y (mZ _ hy)) (JD g gw ae s h1 h2 h3)
theorem tQ (day:Int):SI af ae (bV af ae day):=by
 refine CZ g gw ae _ [] (λx hx=>?_) (λn hn=>nomatch hn);obtain⟨h1,h2⟩:=vN hx;have h3:x∈au af ae:=(vN ((bF _ _).mem_iff.mp h1)).1;exact⟨b9 h3,RV (vN h3).2,RV (vC _ _ ▸ h2).1⟩
end
def Pb.at_ (p:Pb af k n e):∃r,af[n]? = some r:=by
 cases p with
 |here n r x w h p=>exact⟨_,h⟩
 |copy k n m e a d b h p=>exact⟨_,h⟩
def PW.word (p:PW r x w):aD [r]=sS (kindOf r):=by
 obtain⟨a,k,d,b,m,G,hk,rfl,_⟩:=p;exact dC _ _ _
def PW.str (p:PW r x w):av [r,.str "stretch"]=some (iK x,false):=by
 obtain⟨a,k,d,b,m,G,hk,rfl,_⟩:=p;exact be (i:=3) (by rcases hk with rfl|rfl<;>exact cc) rfl
def PW.whom (p:PW r x w):av [r,.str "whom"]=some (w,false):=by
 obtain⟨a,k,d,b,m,G,hk,rfl,_⟩:=p;exact be (i:=4) (by rcases hk with rfl|rfl<;>exact cc) rfl
def PW.box (p:PW r x w):Fc r=false:=by
 obtain⟨a,k,d,b,m,G,hk,rfl,_⟩:=p;rfl
def PW.st (p:PW r x w):fT r=x:=by
 obtain⟨a,k,d,b,m,G,hk,rfl,_⟩:=p;unfold fT;have:∀k:Str,k = "paper" ∨ k = "like"->¬k = "leave":=by rintro k (rfl|rfl)<;>decide +kernel
 rw[ft,if_neg (this k hk)];exact qp rfl
noncomputable abbrev bE (af:LD)(n0:Nat)(r:D):DL.Env:=[sT af,sI n0,some (r,false)]
section
variable {af:LD}(g:∀r∈af,cu r)
include g
theorem MC {k n e:Nat}(p:Pb af k n e)(n0:Nat):∀(r:D)(fuel:Nat),af[n]? = some r->k<fuel->∃q,af[e]? = some q/\fz (aW (f2 cY (fA aD (fV 2 aj)) (fS "copy"))) gQ fuel (bE af n0 r)=some (.nx (bE af n0 q)):=by
 induction p with
 |here n q x w h p=>
  intro r fuel G hf;obtain⟨fuel,rfl⟩:∃j,fuel=j+1:=⟨fuel - 1,by omega⟩;cases h.symm.trans G
  refine⟨q,h,?_⟩;rw[fz,bU (a:=kindOf q) (bb:=false) (x:=false) (aP [q] rfl p.word) (Pz p.nocopy)]
 |copy k n m e a d b h p O=>
  intro r fuel G hf;obtain⟨fuel,rfl⟩:∃j,fuel=j+1:=⟨fuel - 1,by omega⟩;cases h.symm.trans G
  obtain⟨M,h2⟩:=p.at_;obtain⟨q,h3,h4⟩:=O M fuel h2 (by omega);refine⟨q,h3,?_⟩;have T:f2 bH (am 0) (fA av (fV 2 (ag (fS "of") aj))) (bE af n0 (row a ("copy" : Str) [.int d,.str b,.int m]))=some (M,false):=bT (.tup af) (.int m) rfl (aP [row a ("copy" : Str) [.int d,.str b,.int m],.str "of"] rfl (be (i:=2) cc rfl)) (by simp[cf h2]);have U:gQ (bE af n0 (row a ("copy" : Str) [.int d,.str b,.int m]))=some (.nx (bE af n0 M)):=zu T (g _ (vL h2)).flat;rw[fz,bU (a:="copy") (bb:=false) (x:=true) (aP [row a ("copy" : Str) [.int d,.str b,.int m]] rfl (dC _ _ _)) (Au rfl)];dsimp only;rw[U];exact h4
theorem Ep {k n e:Nat}(p:Pb af k n e)(hk:k<=60):∃q x w,af[e]? = some q/\PW q x w/\df [.tup af,.int n]=some (q,false):=by
 obtain⟨r,G⟩:=p.at_;obtain⟨q,hq,O⟩:=MC g p n r 1000 G (by omega);obtain⟨T,x,w,h,M⟩:=p.to;cases h.symm.trans hq
 exact⟨q,x,w,hq,M,aw rfl (iz r (bT (.tup af) (.int n) rfl rfl (by simp[cf G])) (g _ (vL G)).flat (fj O (l5 rfl M.box)))⟩
end
def E5 (af:LD)(n:Nat):Bool:=match af[n]? with
 |some r=>decide (kindOf r∈fx)
 |none=>false
def Pj (af:LD)(n:Nat):Int×OI:=fT (af.getD (pend af 60 n) .non)
def Db (af:LD)(ae day:Int):LN:=((ln (bV af ae day)).filter (E5 af)).filter λn=>kn day (Pj af n)
def tR (n:Nat)(S:LN):dZ (.int n) (.lst (S.map λ(m:Nat)=>.int (m:Int)))=sO (!decide (n∈S)):=by
 have G:(S.map λ(n:Nat)=>D.int (n:Int)).all fX=true:=by
  rw[all_eq_true];intro d hd;obtain⟨m,_,rfl⟩:=vO hd;rfl
 simp only[dZ,fY,vJ];rw[if_pos ⟨rfl,G⟩,GY,CW]
section
variable {af:LD}(g:∀r∈af,cu r) (gw:∀r∈af,Af r) (hl:af.length<=30) (ae:Int) (hn:((bQ (au af ae)).map (a8 0)).Nodup) (ho:(cO (au af ae)).length<=60)
include g gw hl
theorem Ag {day:Int}{n:Nat}(h:n∈bV af ae day)(hp:E5 af n=true):∃q x w e k,k<=60/\Pb af k n e/\af[e]? = some q/\PW q x w/\df [.tup af,.int n]=some (q,false)/\Pj af n=x:=by
 obtain⟨r,h1,h2,h3,h4⟩:=tQ g gw ae day n h;unfold E5 at hp;rw[h1]at hp;obtain⟨k,e,h5,G⟩:=h4 (RV hp);have M:=oJ hl ae day;obtain⟨q,x,w,hq,O,T⟩:=Ep g G (vR h5 M);refine⟨q,x,w,e,k,vR h5 M,G,hq,O,T,?_⟩;unfold Pj;rw[G.pend 60 (vR h5 M),vF,hq];exact O.st
include hn ho
theorem B2 (day:Int):lA [.tup af,.int ae,.int day]=lT ((Db af ae day).map λ(n:Nat)=>.int (n:Int)):=by
 have G:=oJ hl ae day;have hs:(ln (bV af ae day)).length<=60:=by unfold ln;rw[(bF _ _).length_eq];exact G
 have h1:=fZ (fi:=bP (fA gy (fV 0 (fV 1 (fV 2 aj))))) (nT:=1) (cap:=[0,1]) (tg:=dF 0) (c:=aW (fA dB (fV 1 (fV 2 (fV 0 aj))))) (fe:=am 0)
  (ρ:=[sT af,sI ae,sI day,none]) (ln (bV af ae day)) (λ(n:Nat)=>.int (n:Int)) (E5 af) (λ(n:Nat)=>.int (n:Int))
  (by show(fA gy _ _).bind _=_;rw[aP [.tup af,.int ae,.int day] rfl (pN g hl ae hn ho day),CY];rfl) (by omega) λx hx=>by
   obtain⟨r,h1,h2,h3,h4⟩:=tQ g gw ae day x (jH.mp hx);have:=tL h1 (g _ (vL h1)) ae;rw[Au h2,Bool.true_and]at this;have e:E5 af x=decide (kindOf r∈fx):=by unfold E5;rw[h1]
   rw[←e]at this;exact⟨_,rfl,dj (aP [.tup af,.int ae,.int x] rfl this),λ_=>⟨false,rfl⟩⟩
 have M:bB (((ln (bV af ae day)).filter (E5 af)).map λ(n:Nat)=>D.int (n:Int))=true:=ce λd hd=>by obtain⟨x,_,rfl⟩:=vO hd;rfl
 refine aw rfl (cI h1 M (ax ?_));refine fZ (fi:=bP (am 3)) (nT:=1) (cap:=[2,0]) (tg:=dF 0) (c:=aW (fA gp (fV 1 (ag (fA av (ag (fA df (fV 2 (fV 0 aj))) (ag (fS "stretch") aj))) aj)))) (fe:=am 0)
  (ρ:=[sT af,sI ae,sI day,lT (((ln (bV af ae day)).filter (E5 af)).map λ(n:Nat)=>.int (n:Int))]) ((ln (bV af ae day)).filter (E5 af)) (λ(n:Nat)=>.int (n:Int)) (λn=>kn day (Pj af n)) (λ(n:Nat)=>.int (n:Int)) (by simp) (vR (vM _ _) (by omega)) λn hn=>?_
 obtain⟨h2,h3⟩:=vN hn;obtain⟨q,x,w,e,k,hk,U,hq,O,T,e2⟩:=Ag g gw hl ae (jH.mp h2) h3;refine⟨[sI n,sI day,sT af],rfl,dj (aP [.int day,iK x] (cy rfl (cy (aP [q,.str "stretch"] (cy (aP [.tup af,.int n] rfl T) rfl) O.str) rfl)) ?_),λ_=>⟨false,rfl⟩⟩;rw[e2];exact xU _ _ _
end
def PN (w:D):Prop:=w=.non∨∃s,w=.str s
noncomputable def Hb:D->D->Bool
 |.str s,.str t=>decide (s=t)
 |_,_=>true
def MD {w p:D}(hw:PN w)(hp:PN p){f h:FE}{ρ:DL.Env}{b:Bool}(G:f ρ=some (p,b))(e2:h ρ=some (w,false)):Aw (f2 qJ f (fC .non)) (f2 AK h (fA bi (ag (fC .non) (ag f aj)))) ρ=sO (Hb w p):=by
 have M:fA bi (ag (fC .non) (ag f aj)) ρ=sT [.non,p]:=aP [.non,p] (cy rfl (aN G rfl)) (dq _ (by simp));rcases hp with rfl|⟨s,rfl⟩
 ·refine(iX (p:=true) (q:=true) (b1:=false) (cm G rfl (by simp[kE])) λz=>by cases z).trans ?_;rcases hw with rfl|⟨t,rfl⟩<;>rfl
 ·refine(iX (p:=false) (q:=Hb w (.str s)) (b1:=false) (cm G rfl (by simp[kE])) λ_=>bT w (.tup [.non,.str s]) e2 M ?_).trans ?_
  ·rcases hw with rfl|⟨t,rfl⟩
   ·rfl
   ·have:E2 (.str t) [.non,.str s]=decide (t=s):=by
     show(cQ .non (.str t) || (cQ (.str s) (.str t) || false))=_;rw[oV,Bool.or_false];by_cases e:t=s
     ·rw[Au e,Au e.symm];rfl
     ·rw[Pz e,Pz λz=>e z.symm];rfl
    simp only[AK,fY,vJ];rw[if_pos ⟨rfl,rfl⟩,this];rfl
  ·rfl
def ME {w p:D}(hw:PN w)(hp:PN p){f h:FE}{ρ:DL.Env}{b:Bool}(G:f ρ=some (p,b))(e2:h ρ=some (w,false)):Aw (f2 qJ f (fC .non)) (Aw (f2 qJ h (fC .non)) (f2 cY h f)) ρ=sO (Hb w p):=by
 rcases hp with rfl|⟨s,rfl⟩
 ·refine(iX (p:=true) (q:=true) (b1:=false) (cm G rfl (by simp[kE])) λz=>by cases z).trans ?_;rcases hw with rfl|⟨t,rfl⟩<;>rfl
 ·refine(iX (p:=false) (q:=Hb w (.str s)) (b1:=false) (cm G rfl (by simp[kE])) λ_=>?_).trans rfl;rcases hw with rfl|⟨t,rfl⟩
  ·exact(iX (p:=true) (q:=true) (b1:=false) (cm e2 rfl (by simp[kE])) λz=>by cases z).trans rfl
  ·exact(iX (p:=false) (q:=decide (t=s)) (b1:=false) (cm e2 rfl (by simp[kE])) λ_=>cm e2 G (by simp)).trans rfl
def JF {s day:Int}{u:OI}{ρ:DL.Env}(h3:ρ[3]? = some (sI day))(G:ρ[6]? = some (some (iK (s,u),false))):dR (aW (f2 yE (am 3) (bW 6 0))) (dm (aW (f2 gP (bW 6 1) (fC .non))) (aW (f2 Nv (am 3) (bW 6 1)))) ρ=some (!kn day (s,u)):=by
 have i1:bW 6 1 ρ=some (uD u,false):=bT (iK (s,u)) (.int 1) (by simp[G]) rfl (by simp[iK,E4]);have M:aW (f2 yE (am 3) (bW 6 0)) ρ=some (decide (day<s)):=dj (bT (.int day) (.int s) (by simp[h3]) (bT (iK (s,u)) (.int 0) (by simp[G]) rfl (by simp[iK,HE])) (by simp));cases u with
 |none=>
  refine(de (q:=false) M λ_=>cJ (p:=false) (q:=false) (dj (cm i1 rfl (by simp[uD,kE]))) λz=>by cases z).trans ?_;show some (decide (day<s) || false)=some (!(decide (s<=day) && true));by_cases h:s<=day
  ·rw[Au h,Pz (by omega)];rfl
  ·rw[Pz h,Au (by omega)];rfl
 |some z=>
  refine(de (q:=true && decide (z<=day)) M λ_=>cJ (p:=true) (q:=decide (z<=day)) (dj (cm i1 rfl (by simp[uD,kE]))) λ_=>dj (cm (x:=.int day) (b1:=false) (by simp[h3]) i1 (by simp[uD]))).trans ?_;show some (decide (day<s) || (true && decide (z<=day)))=some (!(decide (s<=day) && decide (day<z)));by_cases h:s<=day
  ·by_cases h2:z<=day
   ·rw[Au h,Pz (by omega),Au h2,Pz (by omega)];rfl
   ·rw[Au h,Pz (by omega),Pz h2,Au (by omega)];rfl
  ·rw[Pz h,Au (by omega)];rfl
def Er {af:LD}{n i j:Nat}{a:Int}{k:Str}{ay:LD}{v:D}(h:af[n]? = some (row a k ay))(hv:(D.str k::ay)[j]? = some v){ρ:DL.Env}(h0:ρ[0]? = some (sL af))(hi:ρ[i]? = some (sI n)):f2 bH (f2 bH (f2 bH (am 0) (am i)) (fI 1)) (fI (j:Int)) ρ=some (v,false) :=
 bT (.tup (.str k::ay)) (.int j) (bT (row a k ay) (.int 1) (bT (.lst af) (.int n) (by simp[h0]) (by simp[hi]) (by simp[cf h])) rfl (by simp[row,E4])) rfl (by simp[cf hv])
noncomputable abbrev dE (af T:LD)(n0:Nat)(day:Int)(p:D)(n:Nat):DL.Env:=[sL af,sL T,sI n0,sI day,some (p,false),sI n,none,none]
def JG {af:LD}{k n e:Nat}(p:Pb af k n e)(T:LD)(n0:Nat)(day:Int)(G:D):∀fuel:Nat,k<fuel->fz (aW (f2 cY (f2 bH (f2 bH (f2 bH (am 0) (am 5)) (fI 1)) (fI 0)) (fS "copy"))) sA fuel (dE af T n0 day G n)=some (.nx (dE af T n0 day G e)):=by
 induction p with
 |here n q x w h p=>
  intro fuel hf;obtain⟨fuel,rfl⟩:∃j,fuel=j+1:=⟨fuel - 1,by omega⟩;have hc:=p.nocopy;obtain⟨a,k,d,b,m,U,hk,rfl,_⟩:=p;rw[fz,bU (a:=k) (bb:=false) (x:=false) (ρ:=dE af T n0 day G n) (f:=f2 bH (f2 bH (f2 bH (am 0) (am 5)) (fI 1)) (fI 0)) (Er (j:=0) h rfl rfl rfl) (Pz hc)]
 |copy k n m e a d b h p M=>
  intro fuel hf;obtain⟨fuel,rfl⟩:∃j,fuel=j+1:=⟨fuel - 1,by omega⟩;have O:sA (dE af T n0 day G n)=some (.nx (dE af T n0 day G m)):=zu (Er (i:=5) (j:=3) h rfl rfl rfl) rfl;rw[fz,bU (a:="copy") (bb:=false) (x:=true) (ρ:=dE af T n0 day G n) (f:=f2 bH (f2 bH (f2 bH (am 0) (am 5)) (fI 1)) (fI 0)) (Er (j:=0) h rfl rfl rfl) (Au rfl)];dsimp only;rw[O];exact M fuel (by omega)
section
variable {af:LD}(g:∀r∈af,cu r) (gw:∀r∈af,Af r) (hl:af.length<=30) (ae:Int) (hn:((bQ (au af ae)).map (a8 0)).Nodup) (ho:(cO (au af ae)).length<=60)
include g gw hl hn ho
theorem JH (day:Int){n:Nat}(yj:n<af.length){G:D}(hp:PN G):∃v:Bool,lC [.tup af,.int ae,.int day,.int n,G]=sO v/\qo [.lst af,.lst (ga (bV af ae day)),.int n,.int day,G]=sO v:=by
 have hh:=B2 g gw hl ae hn ho day;have t1:∀b,decide (n∈Db af ae day)=b->aW (f2 dZ (am 3) (fA lA (fV 0 (fV 1 (fV 2 aj))))) [sT af,sI ae,sI day,sI n,some (G,false)]=some (!b):=λb hb=>dw (b:=false) (cm (x:=.int n) (b1:=false) (b2:=true) rfl (aP [.tup af,.int ae,.int day] rfl hh) ((tR n _).trans (by rw[hb])));have q1:∀b,decide (n∈bV af ae day)=b->aW (f2 dZ (am 2) (am 1)) ([sL af,sL (ga (bV af ae day)),sI n,sI day,some (G,false),none,none,none])=some (!b):=λb hb=>dj (bT (.int n) (.lst (ga (bV af ae day))) rfl rfl (by
  rw[CY,tR,←hb];rw[show decide (n∈ln (bV af ae day))=decide (n∈bV af ae day)from decide_eq_decide.mpr jH]))
 obtain⟨r,T⟩:∃r,af[n]? = some r:=⟨_,vU yj⟩;by_cases O:n∈bV af ae day
 ·obtain⟨r',h1,h2,h3,h4⟩:=tQ g gw ae day n O;cases h1.symm.trans T
  obtain⟨a,k,ay,er,dd⟩:=g r (vL T);have q2:aW (f2 cY (f2 bH (f2 bH (f2 bH (am 0) (am 2)) (fI 1)) (fI 0)) (fS "leave")) ([sL af,sL (ga (bV af ae day)),sI n,sI day,some (G,false),none,none,none])=some (decide (kindOf r = "leave")):=by
   subst er;exact bU (a:=k) (bb:=false) (Er (i:=2) (j:=0) T rfl rfl rfl) rfl
  cases M:E5 af n with
  |false=>
   have hk:kindOf r = "leave":=by
    unfold E5 at M;rw[T]at M;have:∀k∈cr,¬k∈fx->k = "leave":=by decide +kernel
    exact this _ h3 (of_decide_eq_false M)
   refine⟨false,aw rfl (bw (t1 false (Pz λz=>?_)) (ax rfl)),aw rfl (bw (de (p:=false) (q:=true) (q1 true (Au O)) λ_=>q2.trans (by rw[Au hk])) (ax rfl))⟩;have:=(vN (vN z).1).2;rw[M]at this;cases this
  |true=>
   have hk:decide (kindOf r = "leave")=false:=by
    unfold E5 at M;rw[T]at M;have:∀k∈fx,decide (k = "leave")=false:=by decide +kernel
    exact this _ (RV M)
   obtain⟨q,x,w,e,j,hj,pb,hq,pw,e1,e2⟩:=Ag g gw hl ae O M;have U:decide (n∈Db af ae day)=kn day x:=by
    rw[←e2];unfold Db;cases hv:kn day (Pj af n) with
    |true=>exact Au (mem_filter.mpr ⟨mem_filter.mpr ⟨jH.mpr O,M⟩,hv⟩)
    |false=>exact Pz λz=>by rw[(vN z).2]at hv;cases hv
   have hw:PN w:=by obtain⟨_,_,_,_,_,_,_,_,hw⟩:=pw;exact hw
   have ew:lB [.tup af,.int n]=some (w,false):=aw rfl (ax (aP [q,.str "whom"] (cy (aP [.tup af,.int n] rfl e1) rfl) pw.whom));refine⟨kn day x && Hb w G,?_,?_⟩
   ·cases hv:kn day x with
    |false=>exact aw rfl (bw (t1 _ (U.trans hv)) (ax rfl))
    |true=>exact aw rfl (aM (t1 _ (U.trans hv)) (ax (MD hw hp (f:=am 4) (h:=fA lB (fV 0 (fV 3 aj))) (b:=false) rfl (aP [.tup af,.int n] rfl ew))))
   ·obtain⟨s,u⟩:=x;have SQ:=JG pb (ga (bV af ae day)) n day G 1000 (by omega);obtain⟨a2,k2,d2,b2,m2,XY,XZ,rfl,_⟩:=pw;let E:DL.Env:=[sL af,sL (ga (bV af ae day)),sI n,sI day,some (G,false),sI e,some (iK (s,u),false),none];have t2:=JF (s:=s) (u:=u) (day:=day) (ρ:=E) rfl rfl;refine aw rfl (aM ((de (p:=false) (q:=false) (q1 true (Au O)) λ_=>q2.trans (by rw[hk])).trans rfl) (iz (.int n) rfl rfl (fj SQ (iz (iK (s,u)) (Er (i:=5) (j:=4) hq rfl rfl rfl) (jG _) ?_))));cases hv:kn day (s,u) with
    |false=>exact bw (t2.trans (by rw[hv];rfl)) (ax rfl)
    |true=>exact aM (t2.trans (by rw[hv];rfl)) (iz w (Er (i:=5) (j:=5) hq rfl rfl rfl) (by rcases hw with rfl|⟨_,rfl⟩<;>rfl) (ax (ME hw hp (f:=am 4) (h:=am 7) (b:=false) rfl rfl)))
 ·refine⟨false,aw rfl (bw (t1 false (Pz λz=>O ?_)) (ax rfl)),aw rfl (bw (de (p:=true) (q:=true) (q1 false (Pz O)) λz=>by cases z) (ax rfl))⟩;exact jH.mp (vN (vN z).1).1
end
end Lw
namespace Lw
open PySem DL L2
def Pk (d:D)(r:LD):lI (d::r) (some 1) none=r:=by
 unfold lI;rw[rM (v:=1) (by decide)];have:HT.dS (d::r).length (d::r).length none=(d::r).length:=rfl;rw[this];have:min (1:Int).toNat (d::r).length=1:=by simp
 rw[this];simp
def Ah (af:LD)(n:Nat):lI af none (some (n:Int))=af.take n:=by
 unfold lI;rw[HT.EJ,HT.HV];simp
def Dc {op:D->OB}{fa:FE}{ρ:DL.Env}{x:D}{b:Bool}{z:OB}(G:fa ρ=some (x,b))(e2:op x=z):f1 op fa ρ=z:=by unfold f1;rw[G];exact e2
def Ai (parts:LS)(ay:LD):ji (parts.map .str) ay=(parts.zip ay).map λx=>.tup [.str x.1,x.2]:=by
 induction parts generalizing ay with
 |nil=>rfl
 |cons a l G=>
  cases ay with
  |nil=>rfl
  |cons d r=>have:=G r;unfold ji at this ⊢;simp[this]
def Hd {α:Type}(l:List α):yH [.lst (l.map λ_=>.bl true)]=some (.bl true,false):=by
 have:=rL (λ_:α=>true) l;simp only[yH,this,map_some];congr 2;simp
noncomputable def fJ (z:Str):Bool:=E2 (.str z) [.str "by",.str "person",.str "whom"]
noncomputable def there:D->Bool
 |.non=>false
 |_=>true
@[simp] def R3:there .non=false:=rfl
@[simp] def R4 (z:Str):there (.str z)=true:=rfl
@[simp] def R5 (z:Int):there (.int z)=true:=rfl
@[simp] def R6 (z:LD):there (.tup z)=true:=rfl
def Aj (d:D)(h:AL d=false):gP d .non=some (.bl (there d),false):=by
 cases d<;>simp[kE,there]at h ⊢
noncomputable def nY (l:List (Str×D)):LD:=(l.filter λx=>fJ x.1 && there x.2).map (·.2)
noncomputable def P6:LS:=[("ann" : Str),"bob","cid","dan"]
noncomputable def off (k:Nat):Str:=if k=0 then "king" else "abbot"
def JJ:∀h:_root_.Fin 14,Pa (i7 [.int (h.val:Int)]) (.bl true) false=true:=by decide +kernel
def JL {h:Int}(h0:0<=h)(h1:h<14):i7 [.int h]=some (.bl true,false):=by
 obtain⟨n,rfl⟩:=Int.eq_ofNat_of_zero_le h0;exact rE (JJ ⟨n,by omega⟩)
structure DeedG (k:Nat)(h:Int)(kind:Str)(ay:List D):Prop where
 parts:∃(parts:List Str)(ss:List Str),mi bM (.str kind)=some (.tup (parts.map .str),false)/\parts.length=ay.length/\(∀x∈parts.zip ay,hW [.str x.1,x.2]=some (.bl true,false))/\nY (parts.zip ay)=ss.map .str/\ss.length<=2/\∀s∈ss,s∈P6
 len:ay.length<=10
 flat:∀d∈ay,b8 d=true/\AL d=false
 day:(kind=("root" : Str)/\(k=0∨k=2)/\∃r,ay=.str (off k)::r)∨(kind≠("root" : Str)/\(∃(day:Int)(r:List D),ay=.int day::r/\day<=h/\0<=day/\(kind=("chosen" : Str)->∃a b c s,r=[a,b,c,.int s]/\day<=s))/\mq bM (.str kind) (.str "day")=some (.int 0,false))
def pX (k:Nat)(r:D):Prop:=∃h kind ay,r=row h kind ay/\0<=h/\h<14/\DeedG k h kind ay
def Pl (k q:Str):cY (.str k) (.str q)=some (.bl (decide (k=q)),false):=by simp
noncomputable def He:D->D
 |.tup [_,.tup (.str _::.int d::_)]=>.int d
 |_=>.non
def JM {k:Nat}{h:Int}{kind:Str}{ay:LD}(g:DeedG k h kind ay):aR [row h kind ay]=some (He (row h kind ay),false):=by
 rcases g.day with⟨e,_,r,rfl⟩|⟨e,⟨day,r,rfl,_⟩,hi⟩
 ·exact aw rfl (bw (dw (b:=false) (cm (x:=.str kind) (y:=.str "root") (b1:=false) (b2:=false) (bA (ds:=[row h kind (.str (off k)::r)]) rfl (dC _ _ _)) rfl (by rw[Pl,Au e]))) (ax rfl))
 ·exact aw rfl (aM (dw (b:=false) (cm (x:=.str kind) (y:=.str "root") (b1:=false) (b2:=false) (bA (ds:=[row h kind (.int day::r)]) rfl (dC _ _ _)) rfl (by rw[Pl,Pz e]))) (ax (bA (ds:=[row h kind (.int day::r),.str "day"]) rfl (be (i:=0) hi rfl))))
def Hf {k:Nat}{h:Int}{kind:Str}{ay:LD}(g:DeedG k h kind ay):oA [.tup (.str kind::ay)]=some (.bl true,false):=by
 obtain⟨parts,ss,hp,hl,ha,_⟩:=g.parts;have G:(bM.lookup kind).isSome=true:=by
  simp only[mi]at hp;obtain⟨d,h1,_⟩:=oY hp;rw[h1];rfl
 have hsz:=g.len;have M:f2 bH (am 0) (fC (.int 0)) [some (.tup (.str kind::ay),false)]=some (.str kind,false):=by simp[HE]
 have O:f1 (mi bM) (f2 bH (am 0) (fC (.int 0))) [some (.tup (.str kind::ay),false)]=some (.tup (parts.map .str),false):=Dc (x:=.str kind) (b:=false) M hp;refine aw rfl (aM (de (p:=false) (q:=false) (by simp) λ_=>de (p:=false) (q:=false) (dw (b:=false) (by simp;omega)) λ_=>ca (p:=true) (dw (b:=false) (bA (ds:=[.str kind,.ty "str"]) (aN M rfl) (by simp)))) (aM (de (p:=false) (q:=false) (dw (b:=false) (Dc (x:=.str kind) (b:=false) M ?_)) λ_=>dw (b:=false) (cm (x:=.int ((ay.length+1:Nat):Int)) (y:=.int (1+(parts.length:Int))) (b1:=false) (b2:=false) (by simp) (cm (x:=.int 1) (y:=.int parts.length) (b1:=false) (b2:=false) rfl (bA (ds:=[.tup (parts.map .str)]) (aN O rfl) (by simp)) (by simp)) ?_)) (ax (bA (ds:=[.lst ((parts.zip ay).map λ_=>.bl true)]) ?_ (Hd _)))))
 ·simp only[qO,G];rfl
 ·simp;omega
 ·have:=rK (fi:=F5 (f1 (mi bM) (f2 bH (am 0) (fC (.int 0)))) (yi (am 0) (eY (fC (.int 1))) ii)) (nT:=2) (cap:=[]) (tg:=F0 [0,1]) (fe:=fA hW (ag (am 0) (ag (am 1) aj))) (ρ:=[some (.tup (.str kind::ay),false)]) (parts.zip ay) (λx=>.tup [.str x.1,x.2]) (λ_=>.bl true)
   (by
    show(f1 (mi bM) _ _).bind _=_;rw[O];simp[Pk,Ai]) (by rw[length_zip];omega) λx hx=>by
    have T:=g.flat x.2 (of_mem_zip hx).2;exact⟨_,rfl,false,bA (ds:=[.str x.1,x.2]) (by simp[dr]) (ha x hx)⟩
  exact aN (b:=true) this rfl
def Es (r:D):b8 (He r)=true:=by
 unfold He;split<;>rfl
def B3 {k:Nat}{h:Int}{kind:Str}{ay:LD}(g:DeedG k h kind ay):kR [row h kind ay]=some (.bl true,false):=by
 have hd:=JM g;have G:∀ {hh:FS}{r:Option Res},hh [some (row h kind ay,false),some (He (row h kind ay),false)]=r->aA (aX 1 (fA aR (ag (am 0) aj))) hh [some (row h kind ay,false),none]=r:=λe=>rF (d:=He (row h kind ay)) (b:=false) (bA (ds:=[row h kind ay]) rfl hd) (Es _) e;rcases g.day with⟨e,_,r,rfl⟩|⟨e,⟨day,r,rfl,O,T,M⟩,hi⟩
 ·exact aw rfl (G (bw (dw (b:=false) (cm (x:=.non) (y:=.non) (b1:=false) (b2:=false) rfl rfl (by simp[kE]))) (ax rfl)))
 ·refine aw rfl (G (aM (dw (b:=false) (cm (x:=.int day) (y:=.non) (b1:=false) (b2:=false) rfl rfl (by simp[kE]))) (aM ((cJ (p:=decide (kind=("chosen" : Str))) (q:=false) (dw (b:=false) (cm (x:=.str kind) (y:=.str "chosen") (b1:=false) (b2:=false) (bA (ds:=[row h kind (.int day::r)]) rfl (dC _ _ _)) rfl (Pl _ _))) λhc=>?_).trans (by rw[Bool.and_false])) (ax ?_))))
  ·have hc:=RV hc;subst hc;obtain⟨a,b,c,s,rfl,hs⟩:=M rfl;refine dw (b:=false) (cm (x:=.int s) (y:=.int day) (b1:=false) (b2:=false) (bA (ds:=[row h ("chosen" : Str) [.int day,a,b,c,.int s],.str "since"]) rfl (be (i:=4) (rE (by decide +kernel)) rfl)) rfl ?_);simp;omega
  ·refine cm (x:=.int day) (y:=.int h) (b1:=false) (b2:=false) rfl (by simp[row,HE]) ?_;simp;omega
def JN {k:Nat}{r:D}(g:pX k r):rQ [r]=some (.bl true,false):=by
 obtain⟨h,kind,ay,rfl,h0,h1,g⟩:=g;refine aw rfl (aM (de (p:=false) (q:=false) (by simp[row]) λ_=>by simp[row]) (ax ((dc (p:=true) (q:=true) (b1:=false) (bA (ds:=[.int h]) (by simp[row,HE]) (JL h0 h1)) λ_=>(dc (p:=true) (q:=true) (b1:=false) (bA (ds:=[.tup (.str kind::ay)]) (by simp[row,E4]) (Hf g)) λ_=>bA (ds:=[row h kind ay]) rfl (B3 g)).trans rfl).trans rfl)))
noncomputable def wL:D->Str
 |.tup [_,.tup (_::.str o::_)]=>o
 |_=>("" : Str)
def JP:mq bM (.str "root") (.str "office")=some (.int 0,false):=rE (by decide +kernel)
def tS {k:Nat}{r:D}(g:pX k r)(h:bj r=true):av [r,.str "office"]=some (.str (wL r),false)/\wL r=off k/\(k=0∨k=2):=by
 obtain⟨a,kind,ay,rfl,_,_,g⟩:=g;have h:kind=("root" : Str):=RV h;subst h;rcases g.day with⟨_,hk,r,rfl⟩|⟨e,_⟩
 ·exact⟨be (i:=0) JP rfl,rfl,hk⟩
 ·exact absurd rfl e
def tT {k:Nat}{r:D}(g:pX k r):aD [r]=some (.str (kindOf r),false):=by
 obtain⟨a,kind,ay,rfl,_⟩:=g;exact dC _ _ _
def JQ (k:Str)(G:LS):AK (.str k) (.lst (G.map .str))=some (.bl (decide (k∈G)),false):=by
 simp only[AK,fY,vJ,nL];rw[if_pos ⟨rfl,lE G⟩]
def Ak (af:LD):Prop:=af.length<=24/\∀(j:Nat) r,af[j]? = some r->pX j r
def Ak.mem {af:LD}(g:Ak af){r:D}(h:r∈af):∃k,pX k r:=by
 obtain⟨j,hj⟩:=mem_iff_getElem?.mp h;exact⟨j,g.2 j r hj⟩
def Et {af:LD}(g:Ak af){i:Nat}{r:D}(hr:af[i]? = some r):gh [.tup (af.take i),r]=some (.bl false,false):=by
 have hi:=(vV hr).1;have gr:=g.2 i r hr;have Ya:=g.1;refine aw rfl (ax ((dc (p:=bj r) (q:=false) (b1:=false) (cm (x:=.str (kindOf r)) (y:=.str "root") (b1:=false) (b2:=false) (bA (ds:=[r]) rfl (tT gr)) rfl (Pl _ _)) λM=>?_).trans (by rw[Bool.and_false])));obtain⟨ho,T,hk⟩:=tS gr M;have G:∀x∈af.take i,∃j,j<i/\pX j x:=λx hx=>by
  obtain⟨j,hj⟩:=mem_iff_getElem?.mp hx;rw[List.getElem?_take]at hj;split at hj
  ·rename_i U;exact⟨j,U,g.2 j x hj⟩
  ·cases hj
 have hc:=fZ (fi:=bP (am 0)) (nT:=1) (cap:=[]) (tg:=dF 0) (c:=aW (f2 cY (fA aD (ag (am 0) aj)) (fC (.str "root")))) (fe:=fA av (ag (am 0) (ag (fC (.str "office")) aj))) (ρ:=[some (.tup (af.take i),false)]) (af.take i) (λx=>x) bj (λx=>.str (wL x)) (by simp) (by simp;omega) λx hx=>by
  obtain⟨j,hj,O⟩:=G x hx;exact⟨_,rfl,dw (b:=false) (cm (x:=.str (kindOf x)) (y:=.str "root") (b1:=false) (b2:=false) (bA (ds:=[x]) (by simp[dr]) (tT O)) rfl (Pl _ _)),λhx=>⟨false,bA (ds:=[x,.str "office"]) (by simp[dr]) (tS O hx).1⟩⟩
 have X0:iA [.tup (af.take i)]=some (.lst ((((af.take i).filter bj).map wL).map .str),true):=by
  rw[uP];exact aw rfl (ax hc)
 refine cm (x:=.str (wL r)) (y:=.lst ((((af.take i).filter bj).map wL).map .str)) (b1:=false) (b2:=true) (bA (ds:=[r,.str "office"]) rfl ho) (bA (ds:=[.tup (af.take i)]) rfl X0) ?_;rw[JQ];congr 3;refine Pz λHs=>?_;obtain⟨x,hx,e⟩:=vO Hs;obtain⟨hx,SM⟩:=vN hx;obtain⟨j,hj,O⟩:=G x hx;obtain⟨_,X1,X2⟩:=tS O SM;rw[T,X1]at e;have:¬off 0=off 2:=by decide +kernel
 rcases hk with rfl|rfl<;>rcases X2 with rfl|rfl
 ·omega
 ·omega
 ·exact this e
 ·omega
theorem Al:∀(ss G:LS){x:Str},x∈ss.foldl iO G->x∈G∨x∈ss
 |[],G,x,h=>.inl h
 |y::ss,G,x,h=>by
  rw[foldl_cons]at h;rcases Al ss (iO G y) h with h|h
  ·rcases qQ.mp h with h|h
   ·exact .inl h
   ·exact .inr (h ▸ mX)
  ·exact .inr (mZ _ h)
theorem tU:∀(ss G:LS),G.Nodup->(ss.foldl iO G).Nodup
 |[],G,h=>h
 |y::ss,G,h=>tU ss (iO G y) (qP h y)
def Am {ss:LS}{x:Str}(h:x∈ge ss):x∈ss:=by
 rcases Al ss [] h with h|h
 ·cases h
 ·exact h
theorem An:∀(l m:LS),l.Nodup->(∀x∈l,x∈m)->l.length<=m.length
 |[],m,_,_=>uN _
 |x::l,m,h,s=>by
  rw[nodup_cons]at h;have hx:=s x mX;have:=An l (m.erase x) h.2 λy hy=>(List.mem_erase_of_ne (a:=y) (b:=x) (λe=>h.1 (by rw[←e];exact hy))).mpr (s y (mZ _ hy));rw[List.length_erase_of_mem hx]at this;have:0<m.length:=List.length_pos_of_mem hx;rw[vE];omega
def Hg {h:Int}{kind:Str}{ay:LD}{parts:LS}(hp:mi bM (.str kind)=some (.tup (parts.map .str),false)):gm [row h kind ay]=some (.lst ((parts.zip ay).map λx=>.tup [.str x.1,x.2]),true):=by
 refine aw rfl (ax ?_);have G:f1 (mi bM) (fA aD (ag (am 0) aj)) [some (row h kind ay,false)]=some (.tup (parts.map .str),false):=Dc (x:=.str kind) (b:=false) (bA (ds:=[row h kind ay]) rfl (dC h kind ay)) hp;have e2:yi (f2 bH (am 0) (fC (.int 1))) (eY (fC (.int 1))) ii [some (row h kind ay,false)]=some (.tup ay,false):=by simp[row,E4,Pk]
 show(((f1 (mi bM) (fA aD (ag (am 0) aj)) [some (row h kind ay,false)]).bind λx=>(yi (f2 bH (am 0) (fC (.int 1))) (eY (fC (.int 1))) ii [some (row h kind ay,false)]).bind λy=>(fY x.1).bind λxs=>(fY y.1).map λys=>ji xs ys).map λds=>(D.lst ds,true))=_;rw[G,e2];simp[Ai]
def Eu {k:Nat}{r:D}(g:pX k r):∃ss:LS,gI [r]=some (.lst (ss.map .str),true)/\ss.length<=2/\∀s∈ss,s∈P6:=by
 obtain⟨h,kind,ay,rfl,_,_,g⟩:=g;obtain⟨parts,ss,hp,hl,_,hk,M,O⟩:=g.parts;have G:=fZ (fi:=bP (fA gm (ag (am 0) aj))) (nT:=2) (cap:=[]) (tg:=F0 [0,1]) (c:=dm (aW (f2 AK (am 0) (fC eC))) (aW (f2 gP (am 1) (fC .non)))) (fe:=am 1)
  (ρ:=[some (row h kind ay,false),none]) (parts.zip ay) (λx=>.tup [.str x.1,x.2]) (λx=>fJ x.1 && there x.2) (·.2) (by
   have U:fA gm (ag (am 0) aj) [some (row h kind ay,false),none]=_:=bA (ds:=[row h kind ay]) rfl (Hg hp);show Option.bind (fA gm (ag (am 0) aj) [some (row h kind ay,false),none]) _=_;rw[U];rfl) (by
   have:=g.len;rw[length_zip];omega) λx hx=>by
   have T:=(g.flat x.2 (of_mem_zip hx).2);refine⟨_,rfl,cJ (dw (b:=false) ?_) λ_=>dw (b:=false) ?_,λ_=>⟨false,?_⟩⟩
   ·refine cm (x:=.str x.1) (y:=eC) (b1:=false) (b2:=false) (by simp[dr]) rfl ?_;simp[eC,fJ,fX]
   ·exact cm (x:=x.2) (y:=.non) (b1:=false) (b2:=false) (by simp[dr]) rfl (Aj _ T.2)
   ·simp[dr]
 refine⟨kI (ge ss),aw rfl (cI (ds:=ss.map .str) ?_ (gL ss) (ax ?_)),?_,?_⟩
 ·exact hk ▸ G
 ·have:ss.length<64:=by omega
  simp[this]
 ·rw[(eA _).length_eq];exact vR (mT ss) M
 ·intro s hs;exact O s (Am ((eA _).mem_iff.mp hs))
def Ev {af:LD}(g:∀r∈af,∃k,pX k r)(hl:af.length<=60):∃n:Nat,iB [.tup af]=some (.int n,false)/\n<=6:=by
 obtain⟨ρ',e,zs,v,rfl,hz,G⟩:=fg (tg:=dF 2) (g:=kj) (λi ρ=>∃(zs:LS)(v:OB),ρ=[some (.tup af,false),some (.lst (zs.map .str),true),v]/\zs.length<=2*i/\∀z∈zs,z∈P6) af
  [some (.tup af,false),some (.lst [],true),none] ⟨[],none,rfl,by simp,by simp⟩ (by
   rintro i d ρ hd ⟨zs,v,rfl,hz,G⟩;have hi:=(vV hd).1;obtain⟨k,T⟩:=g d (vL hd);obtain⟨ss,hp,U,M⟩:=Eu T;have hsz:(zs.map D.str).length+(ss.map D.str).length<=sizeLine:=eB (by simp;omega);refine⟨_,[some (.tup af,false),some (.lst ((zs++ss).map .str),true),some (d,false)],rfl,.inl ?_,zs++ss,some (d,false),rfl,by simp;omega,?_⟩
   ·have hv:fA gI (ag (am 2) aj) [some (.tup af,false),some (.lst (zs.map .str),true),some (d,false)]=some (.lst (ss.map .str),true):=bA (ds:=[d]) rfl hp;show F7 1 (fA gI (ag (am 2) aj)) [some (.tup af,false),some (.lst (zs.map .str),true),some (d,false)]=_;simp only[F7,getElem?_cons_succ,List.getElem?_cons_zero,hv,vJ];rw[if_pos ⟨trivial,gL ss,hsz⟩];simp
   ·intro z O;rcases mem_append.mp O with h|h
    ·exact G z h
    ·exact M z h)
 refine⟨(ge zs).length,aw rfl (cI (ds:=[]) (by simp[sizeLine]) rfl (fj (gZ (ds:=af) (by simp[jz]) e) (ax (Dc (x:=.lst (zs.map .str)) (b:=false) rfl ?_)))),?_⟩
 ·have:zs.length<4000:=by omega
  simp only[mV,sW,vJ,if_pos this]
 ·exact vR (An (ge zs) P6 (tU zs [] nodup_nil) λz hz=>G z (Am hz)) (by decide)
def B4 {af:LD}(g:Ak af){i:Nat}(hi:i<af.length):jT [.tup af,.int i]=some (.bl false,false):=by
 obtain⟨r,O⟩:∃r,af[i]? = some r:=⟨_,vU hi⟩;have ha:=cf O;have T:=g.1;have G:∀ρ:DL.Env,ρ[0]? = some (some (.tup af,false))->ρ[1]? = some (some (.int i,false))->f2 bH (am 0) (am 1) ρ=some (r,false):=λρ h0 h1=>by simp[h0,h1,ha]
 obtain⟨n,hn,U⟩:=Ev (af:=af.take (i+1)) (λx hx=>g.mem (List.mem_of_mem_take hx)) (by simp;omega);have M:=Ah af (i+1);rw[Int.natCast_add]at M;refine aw rfl (aM (de (p:=false) (q:=false) (dw (b:=false) (by simp[iY];omega)) λ_=>ca (p:=true) (dw (b:=false) (bA (ds:=[r]) (aN (G _ rfl rfl) rfl) (JN (g.2 i r O))))) (ax ((iX (p:=false) (q:=false) (b1:=false) (bA (ds:=[.tup (af.take i),r]) (aN (d:=.tup (af.take i)) (b:=false) (by simp[Ah]) (aN (G _ rfl rfl) rfl)) (Et g O)) λ_=>cm (x:=.int n) (y:=.int 20) (b1:=false) (b2:=false) (bA (ds:=[.tup (af.take (i+1))]) (aN (d:=.tup (af.take (i+1))) (b:=false) (by simp;exact M) rfl) hn) rfl (by simp;omega)).trans rfl)))
def Ao {af:LD}(g:Ak af)(hf:bB af=true)(d:D)(hd:d=.lst af∨d=.tup af):jl [d]=some (.tup af,false):=by
 have hl:=g.1;obtain⟨ρ',e,v,rfl⟩:=rA (tg:=dF 2) (g:=kW) af.length (λi ρ=>∃v:OB,ρ=[some (d,false),some (.tup af,false),v])
  [some (d,false),some (.tup af,false),none] ⟨none,rfl⟩ (by
   rintro i ρ hi ⟨v,rfl⟩;exact⟨_,_,rfl,.inl (ms (dw (b:=false) (bA (ds:=[.tup af,.int i]) rfl (B4 g hi))) rfl),some (.int i,false),rfl⟩)
 refine aw rfl (aM (ca (p:=true) (dw (b:=false) (bA (ds:=[d,.tup [.ty "list",.ty "tuple"]]) (aN rfl (aN (d:=.tup [.ty "list",.ty "tuple"]) (b:=false) (by simp[sizeLine]) rfl)) ?_))) (rF (d:=.tup af) (b:=false) (bA (ds:=[d]) rfl ?_) (by simp[hf]) (fj (rJ (o9 (j:=af.length) (b:=false) (by simp) (by omega)) e) (l5 rfl))))
 ·rcases hd with rfl|rfl<;>simp
 ·rcases hd with rfl|rfl<;>simp
end Lw
namespace Lw
open PySem PySem.Spec DL L2
def Hh {a b:Int}(ha : -18446744073709551616<a/\a<18446744073709551616)(hb : -18446744073709551616<b/\b<18446744073709551616):AJ (.int a) (.int b)=some (.int (a*b),false):=by simp[ha,hb]
def oK (ns:LI)(j:Nat):∃c:Int,bX [.lst (ns.map .int),.int j]=sI c:=by
 have t:aW (f2 yE (am 1) (fA eO (fV 0 aj))) [sL (ns.map .int),sI j]=some (decide (j<ns.length)):=dj (bT (.int j) (.int ns.length) rfl (aP [.lst (ns.map .int)] rfl (by simp)) (by simp));by_cases h:j<ns.length
 ·rw[Au h]at t;exact⟨_,aw rfl (bw t (ax (bT (.lst (ns.map .int)) (.int j) rfl rfl (xO (by omega) (by simpa using h)))))⟩
 ·rw[Pz h]at t;exact⟨0,aw rfl (aM t (ax rfl))⟩
def oM (c:Int)(s m:Nat)(hs:s<=100)(hm:m<=100):∃xs:LI,fG [.int c,.int s,.int m]=some (.lst (xs.map .int),true)/\xs.length=m/\∀x∈xs,0<=x/\x<2147483647:=by
 let E:LI->Int->OB->DL.Env:=λxs x v=>[some (.int c,false),some (.int s,false),some (.int m,false),some (.lst (xs.map .int),true),some (.int x,false),v];have U:=mod_lt (x:=c) (m:=2147483647) (by decide);obtain⟨M,O⟩:∃M,(c % 2147483647*48271+(s:Int)*(s:Int)*69621+11) % 2147483647=M:=⟨_,rfl⟩;have T:=mod_lt (x:=c % 2147483647*48271+(s:Int)*(s:Int)*69621+11) (m:=2147483647) (by decide);rw[O]at T;obtain⟨ρ',e,xs,x,v,rfl,hl,hx,G⟩:=rA (tg:=dF 5) (g:=pD) m (λi ρ=>∃xs x v,ρ=E xs x v/\xs.length=i/\(0<=x/\x<2147483647)/\∀y∈xs,0<=y/\y<2147483647) (E [] M none) ⟨[],M,none,rfl,rfl,T,by simp⟩ (by
  rintro i ρ hi ⟨xs,x,v,rfl,hl,hx,G⟩;obtain⟨y,hy⟩:∃y,(x*x+48271*x+(i:Int)+(s:Int)) % 2147483647=y:=⟨_,rfl⟩;have hb:=mod_lt (x:=x*x+48271*x+(i:Int)+(s:Int)) (m:=2147483647) (by decide);rw[hy]at hb;refine⟨E xs x (some (.int i,false)),E (xs++[y]) y (some (.int i,false)),rfl,.inl (rF (d:=.int y) (b:=false) ?_ rfl ?_),_,_,_,rfl,by rw[uZ,length_singleton,hl],hb,?_⟩
  ·refine cm (x:=.int (x*x+48271*x+(i:Int)+(s:Int))) (y:=.int 2147483647) (b1:=false) (b2:=false) (cm (x:=.int (x*x+48271*x+(i:Int))) (y:=.int s) (b1:=false) (b2:=false) (cm (x:=.int (x*x+48271*x)) (y:=.int i) (b1:=false) (b2:=false) (cm (x:=.int (x*x)) (y:=.int (48271*x)) (b1:=false) (b2:=false) (cm (x:=.int x) (y:=.int x) (b1:=false) (b2:=false) rfl rfl (Hh (by omega) (by omega))) (cm (x:=.int 48271) (y:=.int x) (b1:=false) (b2:=false) rfl rfl (Hh (by omega) (by omega))) rfl) rfl rfl) rfl rfl) rfl ?_;rw[←hy];rfl
  ·refine(rH (ds:=xs.map .int) (d:=.int y) (b:=false) rfl rfl rfl (dz (by rw[vI];omega))).trans ?_;simp[E]
  ·intro z hz;rcases mem_append.mp hz with h|h
   ·exact G z h
   ·rw[uT h];exact hb)
 refine⟨xs,aw rfl (cI (ds:=[]) rfl rfl (rF (d:=.int M) (b:=false) ?_ rfl (fj (rJ (o9 (j:=m) (b:=false) rfl (by omega)) e) (l5 rfl)))),hl,G⟩;refine cm (x:=.int (c % 2147483647*48271+(s:Int)*(s:Int)*69621+11)) (y:=.int 2147483647) (b1:=false) (b2:=false) (cm (x:=.int (c % 2147483647*48271+(s:Int)*(s:Int)*69621)) (y:=.int 11) (b1:=false) (b2:=false) (cm (x:=.int (c % 2147483647*48271)) (y:=.int ((s:Int)*(s:Int)*69621)) (b1:=false) (b2:=false) (cm (x:=.int (c % 2147483647)) (y:=.int 48271) (b1:=false) (b2:=false) (cm (x:=.int c) (y:=.int 2147483647) (b1:=false) (b2:=false) rfl rfl rfl) rfl (Hh (by omega) (by omega))) (cm (x:=.int ((s:Int)*(s:Int))) (y:=.int 69621) (b1:=false) (b2:=false) (cm (x:=.int s) (y:=.int s) (b1:=false) (b2:=false) rfl rfl (Hh (by omega) (by omega))) rfl (Hh ?_ (by omega))) rfl) rfl rfl) rfl ?_
 ·have h1:(s:Int)*(s:Int)<=100*100:=Int.mul_le_mul (by omega) (by omega) (by omega) (by omega);have h2:0<=(s:Int)*(s:Int):=Int.mul_nonneg (by omega) (by omega);omega
 ·rw[←O];rfl
def Qz (a b:Int):cY (.int a) (.int b)=some (.bl (decide (a=b)),false):=by simp
def Pm (a:Int){m:Int}(h:0<m):bY (.int a) (.int m)=some (.int (a % m),false):=by simp[h]
def MF (a:Int){m:Int}(h:0<m)(h2:m<1073741824):mO (.int a) (.int m)=some (.int (a / m),false):=by simp[h,h2]
section
variable {xs:LI}(hl:8<=xs.length∨xs.length=6) {ρ:DL.Env}{v:Nat}{b:Bool}(h:ρ[v]? = some (some (.lst (xs.map .int),b)))
include hl h
theorem Q0 (i:Nat)(hi:i<6∨i<8/\8<=xs.length):bW v (i:Int) ρ=sI (xs.getD i 0):=by
 refine cm (x:=.lst (xs.map .int)) (y:=.int i) (b1:=false) (b2:=false) (by simp[h]) rfl ?_;have:=xO (xs:=xs) (i:=(i:Int)) (by omega) (by simp;omega);simpa using this
theorem Ew (i:Nat)(hi:i<6∨i<8/\8<=xs.length){m:Int}(hm:0<m):f2 bY (bW v (i:Int)) (fI m) ρ=sI (xs.getD i 0 % m):=bT (.int (xs.getD i 0)) (.int m) (Q0 hl h i hi) rfl (Pm _ hm)
theorem R7 (i:Nat)(hi:i<6∨i<8/\8<=xs.length){m:Int}(hm:0<m)(h2:m<1073741824):f2 mO (bW v (i:Int)) (fI m) ρ=sI (xs.getD i 0 / m):=bT (.int (xs.getD i 0)) (.int m) (Q0 hl h i hi) rfl (MF _ hm h2)
end
def im {f:FE}{ρ:DL.Env}{a m:Int}(e:f ρ=sI a)(h:0<m):f2 bY f (fI m) ρ=sI (a % m):=bT (.int a) (.int m) e rfl (Pm a h)
noncomputable def NC:List (Int×OI):=(List.range 5).flatMap λ(s:Nat)=>((s:Int),none)::(List.range 9).map λ(j:Nat)=>((s:Int),some ((s:Int)+1+(j:Int)))
def B5 {x:Int}:∃y∈NC,jc [.int x]=some (iK y,false):=by
 have M:=mod_lt (x:=x) (m:=5) (by decide);have O:=mod_lt (x:=x / 10) (m:=9) (by decide);obtain⟨s,hs⟩:∃s:Nat,x % 5=s:=⟨(x % 5).toNat,by omega⟩;obtain⟨j,hj⟩:∃j:Nat,x / 10 % 9=j:=⟨(x / 10 % 9).toNat,by omega⟩;let E:DL.Env:=[sI x,sI s];have G:f2 bY (am 0) (fI 5) [sI x,none]=sI s:=hs ▸ im rfl (by decide);have t:aW (f2 cY (f2 bY (f2 mO (am 0) (fI 5)) (fI 2)) (fI 0)) E=some (decide (x / 5 % 2=0)):=dj (bT (.int (x / 5 % 2)) (.int 0) (im (bT (.int x) (.int 5) rfl rfl (MF _ (by decide) (by decide))) (by decide)) rfl (Qz _ _));by_cases h:x / 5 % 2=0
 ·rw[Au h]at t;exact⟨((s:Int),none),List.mem_flatMap.mpr ⟨s,mem_range.mpr (by omega),mX ..⟩,aw rfl (iz (.int s) G rfl (bw t (ax (aP [.int s,.non] rfl (dq _ (by simp))))))⟩
 ·rw[Pz h]at t;refine⟨((s:Int),some ((s:Int)+1+(j:Int))),List.mem_flatMap.mpr ⟨s,mem_range.mpr (by omega),mZ _ (uS ⟨j,mem_range.mpr (by omega),rfl⟩)⟩,aw rfl (iz (.int s) G rfl (aM t (ax (aP [.int s,.int ((s:Int)+1+(j:Int))] (cy rfl (cy ?_ rfl)) (dq _ (by simp))))))⟩;exact bT (.int ((s:Int)+1)) (.int j) (bT (.int s) (.int 1) rfl rfl rfl) (hj ▸ im (bT (.int x) (.int 10) rfl rfl (MF _ (by decide) (by decide))) (by decide)) rfl
def PV (p:Str)(d:D):Bool:=Pa (hW [.str p,d]) (.bl true) false
def hJ:LS->LD->Bool
 |p::ps,d::ds=>PV p d && hJ ps ds
 |_,_=>true
theorem oN:∀ {ps:LS}{ds:LD},hJ ps ds=true->∀x∈ps.zip ds,hW [.str x.1,x.2]=some (.bl true,false)
 |[],_,_,x,h=>by simp at h
 |_::_,[],_,x,h=>by simp at h
 |p::ps,d::ds,h1,x,h=>by
  have h1:=(vC _ _ ▸ h1:PV p d=true/\hJ ps ds=true);rw[zip_cons_cons]at h;rcases vP h with rfl|h
  ·exact rE h1.1
  ·exact oN h1.2 x h
def aT {p:Str}{d:D}{ps:LS}{ds:LD}(h:PV p d=true)(r:hJ ps ds=true):hJ (p::ps) (d::ds)=true:=by unfold hJ;rw[h,r];rfl
def js:∀n:_root_.Fin 10,PV "day" (.int (n.val:Int))=true:=by decide +kernel
def De:∀n:_root_.Fin 14,PV "of" (.int (n.val:Int))=true:=by decide +kernel
def MG:∀n:_root_.Fin 4,PV "further" (.int (n.val:Int))=true:=by decide +kernel
def MH:∀m∈[1,2,3,7],PV "matters" (.int ((m:Nat):Int))=true:=by decide +kernel
def Hi:∀z∈P6,(PV "by" (.str z) && PV "person" (.str z) && PV "whom" (.str z))=true:=by decide +kernel
def Ap:∀x∈NC,PV "stretch" (iK x)=true:=by decide +kernel
def MI:∀m∈[1,2,3,7],m∈MS:=by decide
def tV {z:Str}(h:z∈P6):PV "by" (.str z)=true:=by have:=Hi z h;simp only[vC]at this;exact this.1.1
def Df {z:Str}(h:z∈P6):PV "person" (.str z)=true:=by have:=Hi z h;simp only[vC]at this;exact this.1.2
def KP {z:Str}(h:z∈P6):PV "whom" (.str z)=true:=by have:=Hi z h;simp only[vC]at this;exact this.2
def Tt:fJ ("office" : Str)=false:=by decide +kernel
def ND:fJ ("matters" : Str)=false:=by decide +kernel
def Tu:fJ ("further" : Str)=false:=by decide +kernel
def Hj:fJ ("day" : Str)=false:=by decide +kernel
def Pn:fJ ("person" : Str)=true:=by decide +kernel
def MJ:fJ ("by" : Str)=true:=by decide +kernel
def Po:fJ ("stretch" : Str)=false:=by decide +kernel
def JR:fJ ("whom" : Str)=true:=by decide +kernel
def Pp:fJ ("pieces" : Str)=false:=by decide +kernel
def JU:fJ ("of" : Str)=false:=by decide +kernel
def Pq:fJ ("changes" : Str)=false:=by decide +kernel
def Hk {k day:Nat}{h:Int}{kind:Str}{r:LD}(parts ss:LS)(hc:mi bM (.str kind)=some (.tup (parts.map .str),false))(hl:parts.length=(D.int (day:Int)::r).length)(hp:hJ parts (.int (day:Int)::r)=true)(hk:nY (parts.zip (.int (day:Int)::r))=ss.map .str)(O:∀s∈ss,s∈P6)(hf:(r.all λd=>b8 d && !AL d)=true)(hd:(day:Int)<=h)(h2:decide (ss.length<=2)=true:=by rfl)(G:decide (r.length<=9)=true:=by rfl)(M:(decide (kind = "root") || decide (kind = "chosen"))=false:=by decide +kernel)(hi:mq bM (.str kind) (.str "day")=sI 0:=by exact cc):DeedG k h kind (.int (day:Int)::r) :=
 have M:=Bool.or_eq_false_iff.mp M
 ⟨⟨parts,ss,hc,hl,oN hp,hk,RV h2,O⟩,by have:=RV G;rw[vE];omega,λd hd=>by
  rcases vP hd with rfl|hd
  ·exact⟨rfl,rfl⟩
  ·have:=uR hf d hd;rw[vC]at this;exact⟨this.1,by simpa using this.2⟩,.inr ⟨of_decide_eq_false M.1,⟨day,_,rfl,hd,by omega,λe=>absurd e (of_decide_eq_false M.2)⟩,hi⟩⟩
def Aq (x:Int×OI):(b8 (iK x) && !AL (iK x))=true:=by rw[jG];rfl
structure Dw (k day:Nat)(kind:Str)(ay:List D):Prop where
 dd:Dd kind ay
 g:∀h:Int,(day:Int)<=h->DeedG k h kind ay
 w:∀h:Int,Af (row h kind ay)
 nr:decide (kind = "root")=false
def now {kind:Str}{ay:LD}(h:Int)(e:(decide (kind = "paper") || decide (kind = "like"))=false):Af (row h kind ay):=λz=>by
 have e:=Bool.or_eq_false_iff.mp e;rcases z with z|z
 ·exact absurd z (of_decide_eq_false e.1)
 ·exact absurd z (of_decide_eq_false e.2)
section
variable {k day n:Nat}{by_ A1:Str}(hd:day<10) (hb:by_∈P6)
include hd hb
theorem JV (kind:Str)(hk:kind = "death" ∨ kind = "lost" ∨ kind = "found"):Dw k day kind [.int (day:Int),.str by_]:=by
 refine⟨.three kind hk _ _,λh hh=>?_,λh=>now h (by rcases hk with rfl|rfl|rfl<;>decide +kernel),by rcases hk with rfl|rfl|rfl<;>decide +kernel⟩
 rcases hk with rfl|rfl|rfl
 ·exact Hk ["day","person"] [by_] cc rfl (aT (js ⟨day,hd⟩) (aT (Df hb) rfl)) (by simp[nY,Hj,Pn]) (by simpa using hb) rfl hh
 ·exact Hk ["day","person"] [by_] cc rfl (aT (js ⟨day,hd⟩) (aT (Df hb) rfl)) (by simp[nY,Hj,Pn]) (by simpa using hb) rfl hh
 ·exact Hk ["day","person"] [by_] cc rfl (aT (js ⟨day,hd⟩) (aT (Df hb) rfl)) (by simp[nY,Hj,Pn]) (by simpa using hb) rfl hh
theorem Hl (hn:n<14)(kind:Str)(hk:kind = "copy" ∨ kind = "call"):Dw k day kind [.int (day:Int),.str by_,.int (n:Int)]:=by
 refine⟨.copy kind hk _ _ _,λh hh=>?_,λh=>now h (by rcases hk with rfl|rfl<;>decide +kernel),by rcases hk with rfl|rfl<;>decide +kernel⟩
 rcases hk with rfl|rfl
 ·exact Hk ["day","by","of"] [by_] cc rfl (aT (js ⟨day,hd⟩) (aT (tV hb) (aT (De ⟨n,hn⟩) rfl))) (by simp[nY,Hj,MJ,JU]) (by simpa using hb) rfl hh
 ·exact Hk ["day","by","of"] [by_] cc rfl (aT (js ⟨day,hd⟩) (aT (tV hb) (aT (De ⟨n,hn⟩) rfl))) (by simp[nY,Hj,MJ,JU]) (by simpa using hb) rfl hh
theorem JX (G:A1∈P6){m f:Nat}(hm:m∈[1,2,3,7]){x:Int×OI}(hx:x∈NC)(hf:f<4):Dw k day "leave" [.int (day:Int),.str by_,.str A1,.int (m:Int),iK x,.int (f:Int)] :=
 ⟨.leave _ _ _ m (MI m hm) x _,λh hh=>Hk ["day","by","person","matters","stretch","further"] [by_,A1] cc rfl (aT (js ⟨day,hd⟩) (aT (tV hb) (aT (Df G) (aT (MH m hm) (aT (Ap x hx) (aT (MG ⟨f,hf⟩) rfl)))))) (by simp[nY,ND,Tu,Hj,Pn,MJ,Po]) (by simp[hb,G]) (by simp only[all_cons,Aq];rfl) hh,λh=>now h (by decide +kernel),by decide +kernel⟩
theorem JY (O:A1∈P6){w:D}(hw:w=.non∨w=.str A1){x:Int×OI}(hx:x∈NC){v:D}(hv:v=.tup [.str "aa"]∨v=.tup [.str "aa",.str "b"]):Dw k day "paper" [.int (day:Int),.str by_,.int 1,iK x,w,v]:=by
 have M:PV "pieces" v=true:=by rcases hv with rfl|rfl<;>decide +kernel
 have G:b8 v=true/\AL v=false/\there v=true/\aQ 5 v=true:=by rcases hv with rfl|rfl<;>exact⟨rfl,rfl,rfl,rfl⟩
 refine⟨.paper "paper" (.inl rfl) _ _ 1 (by decide) x [w,v] (by rcases hw with rfl|rfl<;>simp[G.1]) (by rcases hw with rfl|rfl<;>simp[G.2.2.2,aQ]),λh hh=>?_,λh _=>⟨x,w,_,_,_,_,1,_,.inl rfl,rfl,hw.imp id λe=>⟨_,e⟩⟩,by decide +kernel⟩
 rcases hw with rfl|rfl
 ·exact Hk ["day","by","matters","stretch","whom","pieces"] [by_] cc rfl (aT (js ⟨day,hd⟩) (aT (tV hb) (aT (by decide +kernel) (aT (Ap x hx) (aT (by decide +kernel) (aT M rfl)))))) (by simp[nY,ND,Hj,MJ,Po,JR,Pp]) (by simpa using hb) (by simp only[all_cons,Aq,G.1,G.2.1];rfl) hh
 ·exact Hk ["day","by","matters","stretch","whom","pieces"] [by_,A1] cc rfl (aT (js ⟨day,hd⟩) (aT (tV hb) (aT (by decide +kernel) (aT (Ap x hx) (aT (KP O) (aT M rfl)))))) (by simp[nY,ND,Hj,MJ,Po,JR,Pp]) (by simp[hb,O]) (by simp only[all_cons,Aq,G.1,G.2.1];rfl) hh
theorem ML (M:A1∈P6){w:D}(hw:w=.non∨w=.str A1){x:Int×OI}(hx:x∈NC)(hn:n<14):Dw k day "like" [.int (day:Int),.str by_,.int 1,iK x,w,.int (n:Int),.tup [.tup [.int 0,.str "c"]]]:=by
 have G:PV "changes" (.tup [.tup [.int 0,.str "c"]])=true:=by decide +kernel
 refine⟨.paper "like" (.inr rfl) _ _ 1 (by decide) x [w,.int (n:Int),.tup [.tup [.int 0,.str "c"]]] (by rcases hw with rfl|rfl<;>simp) (by rcases hw with rfl|rfl<;>simp[aQ]),λh hh=>?_,λh _=>⟨x,w,_,_,_,_,1,_,.inr rfl,rfl,hw.imp id λe=>⟨_,e⟩⟩,by decide +kernel⟩
 rcases hw with rfl|rfl
 ·exact Hk ["day","by","matters","stretch","whom","of","changes"] [by_] cc rfl (aT (js ⟨day,hd⟩) (aT (tV hb) (aT (by decide +kernel) (aT (Ap x hx) (aT (by decide +kernel) (aT (De ⟨n,hn⟩) (aT G rfl))))))) (by simp[nY,ND,Hj,MJ,Po,JR,JU,Pq]) (by simpa using hb) (by simp only[all_cons,Aq];rfl) hh
 ·exact Hk ["day","by","matters","stretch","whom","of","changes"] [by_,A1] cc rfl (aT (js ⟨day,hd⟩) (aT (tV hb) (aT (by decide +kernel) (aT (Ap x hx) (aT (KP M) (aT (De ⟨n,hn⟩) (aT G rfl))))))) (by simp[nY,ND,Hj,MJ,Po,JR,JU,Pq]) (by simp[hb,M]) (by simp only[all_cons,Aq];rfl) hh
end
abbrev eD (xs:LI)(k day:Nat)(G M:Str)(m:Nat)(st:Int×OI)(n:Nat)(w:D)(O:Int):DL.Env:=[sL (xs.map .int),sI k,sI day,lT (P6.map .str),sS G,sS M,sI m,some (iK st,false),sI n,some (w,false),sI O]
def R8:∀j:_root_.Fin 7,∃m∈[1,2,3,7],([1,3,7,2,1,1,3]:LI).getD j.val 0=((m:Nat):Int):=by decide
section
variable {xs:LI}(hl:xs.length=9) (k:Nat) (hk:1<=k/\k<=12) (day:Nat)
include hl hk
theorem Hm:∃O G,∃m:Nat,∃st,∃n:Nat,∃w,∃wd:Int,(O∈P6/\G∈P6/\m∈[1,2,3,7]/\st∈NC/\n<14/\(w=.non∨w=.str G))/\∀ {T:FS}{res:Option Res},T (eD xs k day O G m st n w wd)=res ->
  (aA (aX 3 (fA bS (ag (fS "ann") (ag (fS "bob") (ag (fS "cid") (ag (fS "dan") aj))))))
  (aA (aX 4 (f2 bH (am 3) (f2 bY (f2 bY (bW 0 2) (fI 5)) (fI 4))))
  (aA (aX 5 (f2 bH (am 3) (f2 bY (bW 0 3) (fI 4))))
  (aA (aX 6 (f2 bH (fA bS (ag (fI 1) (ag (fI 3) (ag (fI 7) (ag (fI 2) (ag (fI 1) (ag (fI 1) (ag (fI 3) aj)))))))) (f2 bY (bW 0 4) (fI 7))))
  (aA (aX 7 (fA jc (ag (bW 0 5) aj)))
  (aA (aX 8 (fA Fq (ag (fI 0) (ag (f2 qD (f2 qD (am 1) (fI 1)) (f2 bY (bW 0 6) (fI 4))) aj))))
  (aA (aX 9 (f2 bH (fA bS (ag (fC .non) (fV 5 aj))) (f2 bY (bW 0 7) (fI 2))))
  (aA (aX 10 (f2 bY (bW 0 1) (fI 12))) T)))))))) ([sL (xs.map .int),sI k,sI day,none,none,none,none,none,none,none,none])=res:=by
 have M:8<=xs.length∨xs.length=6:=by omega
 have m2:=mod_lt (x:=xs.getD 2 0 % 5) (m:=4) (by decide);have m3:=mod_lt (x:=xs.getD 3 0) (m:=4) (by decide);have m4:=mod_lt (x:=xs.getD 4 0) (m:=7) (by decide);have m6:=mod_lt (x:=xs.getD 6 0) (m:=4) (by decide);have m7:=mod_lt (x:=xs.getD 7 0) (m:=2) (by decide);have h4:P6.length=4:=rfl;obtain⟨O,hb,eb⟩:=yc (zs:=P6) (i:=xs.getD 2 0 % 5 % 4) (by omega) (by omega);obtain⟨G,ho,eo⟩:=yc (zs:=P6) (i:=xs.getD 3 0 % 4) (by omega) (by omega);obtain⟨j,hj⟩:∃j:Nat,xs.getD 4 0 % 7=j:=⟨(xs.getD 4 0 % 7).toNat,by omega⟩;obtain⟨m,hm,em⟩:=R8 ⟨j,by omega⟩;obtain⟨st,U,es⟩:=B5 (x:=xs.getD 5 0);obtain⟨n,hn,en⟩:∃n:Nat,n<14/\Fq [.int 0,.int ((k:Int) - 1 - xs.getD 6 0 % 4)]=sI n:=by
  refine⟨((if(k:Int) - 1 - xs.getD 6 0 % 4 > 0 then (k:Int) - 1 - xs.getD 6 0 % 4 else 0)).toNat,by split<;>omega,?_⟩
  show some (D.int _,false)=_;rw[show(((if(k:Int) - 1 - xs.getD 6 0 % 4 > 0 then (k:Int) - 1 - xs.getD 6 0 % 4 else 0).toNat:Nat):Int)=(if(k:Int) - 1 - xs.getD 6 0 % 4 > 0 then (k:Int) - 1 - xs.getD 6 0 % 4 else 0) by split<;>omega]
 obtain⟨w,hw,ew⟩:∃w,(w=.non∨w=.str G)/\bH (.lst [.non,.str G]) (.int (xs.getD 7 0 % 2))=some (w,false):=by
  have:xs.getD 7 0 % 2=0∨xs.getD 7 0 % 2=1:=by omega
  rcases this with h|h<;>rw[h]
  ·exact⟨.non,.inl rfl,rfl⟩
  ·exact⟨_,.inr rfl,rfl⟩
 refine⟨O,G,m,st,n,w,xs.getD 1 0 % 12,⟨hb,ho,hm,U,hn,hw⟩,λ{T res} hT=>?_⟩;refine cI (ds:=P6.map .str) (aP [.str "ann",.str "bob",.str "cid",.str "dan"] rfl (fH _ (by simp))) (gL _) ?_;refine iz (.str O) (bT (.lst (P6.map .str)) (.int (xs.getD 2 0 % 5 % 4)) rfl (im (Ew (b:=false) M rfl 2 (by omega) (by decide)) (by decide)) eb) rfl ?_;refine iz (.str G) (bT (.lst (P6.map .str)) (.int (xs.getD 3 0 % 4)) rfl (Ew (b:=false) M rfl 3 (by omega) (by decide)) eo) rfl ?_;refine iz (.int m) (cm (x:=.lst (([1,3,7,2,1,1,3]:LI).map .int)) (y:=.int (j:Int)) (b1:=true) (b2:=false) (aP [.int 1,.int 3,.int 7,.int 2,.int 1,.int 1,.int 3] rfl (fH _ (by simp))) (hj ▸ Ew (b:=false) M rfl 4 (by omega) (by decide)) ((xO (by omega) (by show j<7;omega)).trans (by rw[toNat_natCast,em]))) rfl ?_;refine iz (iK st) (aP [.int (xs.getD 5 0)] (cy (Q0 (b:=false) M rfl 5 (by omega)) rfl) es) (jG _) ?_;refine iz (.int n) (aP [.int 0,.int ((k:Int) - 1 - xs.getD 6 0 % 4)] (cy rfl (cy (bT (.int ((k:Int) - 1)) (.int (xs.getD 6 0 % 4)) (bT (.int k) (.int 1) rfl rfl rfl) (Ew (b:=false) M rfl 6 (by omega) (by decide)) rfl) rfl)) en) rfl ?_;refine iz w (cm (x:=.lst [.non,.str G]) (y:=.int (xs.getD 7 0 % 2)) (b1:=true) (b2:=false) (aP [.non,.str G] rfl (fH _ (by simp))) (Ew (b:=false) M rfl 7 (by omega) (by decide)) ew) (by rcases hw with rfl|rfl<;>rfl) ?_
 exact iz (.int (xs.getD 1 0 % 12)) (Ew (b:=false) M rfl 1 (by omega) (by decide)) rfl hT
theorem JZ (hd:day<10):∃kind ay,sx [.lst (xs.map .int),.int k,.int day]=sT (.str kind::ay)/\Dw k day kind ay:=by
 have U:8<=xs.length∨xs.length=6:=by omega
 obtain⟨G,A1,m,st,n,w,M,⟨hb,ho,hm,E7,hn,hw⟩,pre⟩:=Hm hl k hk day;obtain⟨E,O⟩:∃E,E=eD xs k day G A1 m st n w M:=⟨_,rfl⟩;rw[←O]at pre;have tl:∀z:Int,aW (f2 yE (am 10) (fI z)) E=some (decide (M<z)):=λz=>by rw[O];exact dj (bT (.int M) (.int z) rfl rfl rfl)
 have te:∀z:Int,aW (f2 cY (am 10) (fI z)) E=some (decide (M=z)):=λz=>by rw[O];exact dj (bT (.int M) (.int z) rfl rfl (Qz _ _))
 have h0:E[0]? = some (some (.lst (xs.map .int),false)):=by rw[O];rfl
 by_cases w3:M<3
 ·have m7:=mod_lt (x:=xs.getD 7 0) (m:=4) (by decide);obtain⟨f,hf⟩:∃f:Nat,xs.getD 7 0 % 4=f:=⟨(xs.getD 7 0 % 4).toNat,by omega⟩;have e7:f2 bY (bW 0 7) (fI 4) E=sI (f:Int):=hf ▸ Ew U h0 7 (by omega) (by decide);subst O;exact⟨"leave",_,aw rfl (pre (bw ((tl 3).trans (by rw[Au w3])) (ax (aP [.str "leave",.int day,.str G,.str A1,.int m,iK st,.int (f:Int)] (cy rfl (cy rfl (cy rfl (cy rfl (cy rfl (cy rfl (cy e7 rfl))))))) (dq _ (by simp)))))),JX hd hb ho hm E7 (by omega)⟩
 have t3:=(tl 3).trans (by rw[Pz w3]);by_cases w7:M<7
 ·obtain⟨v,hv,ev⟩:∃v,(v=.tup [.str "aa"]∨v=.tup [.str "aa",.str "b"])/\yi (fA bi (ag (fS "aa") (ag (fS "b") aj))) ii (eY (f2 eW (fI 1) (f2 bY (f2 mO (bW 0 7) (fI 2)) (fI 2)))) E=some (v,false):=by
   have m7:=mod_lt (x:=xs.getD 7 0 / 2) (m:=2) (by decide);have e1:fA bi (ag (fS "aa") (ag (fS "b") aj)) E=sT [.str "aa",.str "b"]:=aP [.str "aa",.str "b"] rfl (dq _ (by simp));have e2:f2 eW (fI 1) (f2 bY (f2 mO (bW 0 7) (fI 2)) (fI 2)) E=sI (1+xs.getD 7 0 / 2 % 2):=bT (.int 1) (.int (xs.getD 7 0 / 2 % 2)) rfl (im (R7 U h0 7 (by omega) (by decide) (by decide)) (by decide)) rfl;have:xs.getD 7 0 / 2 % 2=0∨xs.getD 7 0 / 2 % 2=1:=by omega
   have ho:∀q:Int,f2 eW (fI 1) (f2 bY (f2 mO (bW 0 7) (fI 2)) (fI 2)) E=sI q->yi (fA bi (ag (fS "aa") (ag (fS "b") aj))) ii (eY (f2 eW (fI 1) (f2 bY (f2 mO (bW 0 7) (fI 2)) (fI 2)))) E=some (.tup (lI [.str "aa",.str "b"] none (some q)),false):=λq hq=>by
    have h1:eY (f2 eW (fI 1) (f2 bY (f2 mO (bW 0 7) (fI 2)) (fI 2))) E=some (some q):=by unfold eY;rw[hq]
    unfold yi;rw[e1,vJ,show ii E=some none from rfl,vJ,h1];rfl
   rcases this with h|h<;>rw[h]at e2
   ·exact⟨_,.inl rfl,ho _ e2⟩
   ·exact⟨_,.inr rfl,ho _ e2⟩
  subst O;exact⟨"paper",_,aw rfl (pre (aM t3 (bw ((tl 7).trans (by rw[Au w7])) (ax (aP [.str "paper",.int day,.str G,.int 1,iK st,w,v] (cy rfl (cy rfl (cy rfl (cy rfl (cy rfl (cy rfl (cy ev rfl))))))) (dq _ (by simp))))))),JY hd hb ho hw E7 hv⟩
 have t7:=(tl 7).trans (by rw[Pz w7]);by_cases w77:M=7
 ·subst O;exact⟨"like",_,aw rfl (pre (aM t3 (aM t7 (bw ((te 7).trans (by rw[Au w77])) (ax (aP [.str "like",.int day,.str G,.int 1,iK st,w,.int n,.tup [.tup [.int 0,.str "c"]]] (cy rfl (cy rfl (cy rfl (cy rfl (cy rfl (cy rfl (cy rfl (cy rfl rfl)))))))) (dq _ (by simp)))))))),ML hd hb ho hw E7 hn⟩
 have SR:=(te 7).trans (by rw[Pz w77]);by_cases w10:M<10
 ·subst O;exact⟨"copy",_,aw rfl (pre (aM t3 (aM t7 (aM SR (bw ((tl 10).trans (by rw[Au w10])) (ax (aP [.str "copy",.int day,.str G,.int n] rfl (dq _ (by simp))))))))),Hl hd hb hn "copy" (.inl rfl)⟩
 have UL:=(tl 10).trans (by rw[Pz w10]);by_cases T:M=10
 ·subst O;exact⟨"call",_,aw rfl (pre (aM t3 (aM t7 (aM SR (aM UL (bw ((te 10).trans (by rw[Au T])) (ax (aP [.str "call",.int day,.str G,.int n] rfl (dq _ (by simp)))))))))),Hl hd hb hn "call" (.inr rfl)⟩
 have SS:=(te 10).trans (by rw[Pz T]);have m7:=mod_lt (x:=xs.getD 7 0) (m:=3) (by decide);obtain⟨kind,UM,e3⟩:=yc (zs:=(["lost","found","death"]:LS)) (i:=xs.getD 7 0 % 3) (by show -3<=_;omega) (by show _<3;omega);have e7:=Ew U h0 7 (by omega) (m:=3) (by decide);subst O;refine⟨kind,_,aw rfl (pre (aM t3 (aM t7 (aM SR (aM UL (aM SS (ax (aP [.str kind,.int day,.str A1] (cy (cm (x:=.lst ((["lost","found","death"]:LS).map .str)) (y:=.int (xs.getD 7 0 % 3)) (b1:=true) (b2:=false) (aP [.str "lost",.str "found",.str "death"] rfl (fH _ (by simp))) e7 e3) rfl) (dq _ (by simp)))))))))),JV hd ho kind ?_⟩;simp only[mem_cons,not_mem_nil,or_false]at UM;rcases UM with h|h|h
 ·exact .inr (.inl h)
 ·exact .inr (.inr h)
 ·exact .inl h
end
structure GR (af:List D):Prop where
 at_:∀(j:Nat) r,af[j]? = some r->pX j r/\cu r/\Af r
 off:(wF af).Nodup
def GR.snoc {af:LD}(g:GR af){r:D}(G:pX af.length r)(hk:cu r)(hw:Af r)(M:bj r=false):GR (af++[r]):=by
 refine⟨λj q h=>?_,?_⟩
 ·by_cases hj:j<af.length
  ·rw[getElem?_append_left hj]at h;exact g.at_ j q h
  ·rw[getElem?_append_right (by omega)]at h;obtain⟨h1,h2⟩:=vV h;have:j=af.length:=by rw[length_singleton]at h1;omega
   subst this;simp only[Nat.sub_self,List.getElem_cons_zero]at h2;subst h2;exact⟨G,hk,hw⟩
 ·rw[Eg,M,if_neg (by decide),uQ];exact g.off
def GR.flat {af:LD}(g:GR af):bB af=true:=ce λd hd=>by
 obtain⟨j,hj⟩:=mem_iff_getElem?.mp hd;exact(g.at_ j d hj).2.1.flat
def king:D:=row 0 "root" [.str "king",.int (7:Nat),.int 3,.str "open"]
def ann:D:=row 0 "named" [.int (0:Nat),.str "king",.str "ann"]
def abbot:D:=row 0 "root" [.str "abbot",.int (3:Nat),.int 1,.str "first"]
def bob:D:=row 1 "named" [.int (1:Nat),.str "abbot",.str "bob"]
def Ve:fJ ("rule" : Str)=false:=by decide +kernel
def Hn {k:Nat}(hk:k=0∨k=2){m f:Nat}{rl:Str}(hp:hJ ["office","matters","further","rule"] [.str (off k),.int m,.int f,.str rl]=true):pX k (row 0 "root" [.str (off k),.int m,.int f,.str rl]) :=
 ⟨0,_,_,rfl,by decide,by decide,⟨["office","matters","further","rule"],[],cc,rfl,oN hp,by simp[nY,Tt,ND,Tu,Ve],by decide,by simp⟩,by simp,λd hd=>by
  simp only[mem_cons,not_mem_nil,or_false]at hd;rcases hd with rfl|rfl|rfl|rfl<;>exact⟨rfl,rfl⟩,.inl ⟨rfl,hk,_,rfl⟩⟩
def Dg (k:Nat){day:Nat}{o p:Str}(hd:day<=1)(hp:hJ ["day","office","person"] [.int (day:Int),.str o,.str p]=true)(G:p∈P6):pX k (row day "named" [.int (day:Int),.str o,.str p]) :=
 ⟨day,_,_,rfl,by omega,by omega,Hk ["day","office","person"] [p] cc rfl hp (by simp[nY,Tt,Hj,Pn]) (by simpa using G) rfl (le_refl _)⟩
def Ka:GR [king,ann]:=by
 refine⟨λj r h=>?_,by decide +kernel⟩;match j,h with
 |0,h=>cases h;exact⟨Hn (k:=0) (.inl rfl) (by decide +kernel),⟨_,_,_,rfl,.root _ _ 7 (by decide) _⟩,now 0 (by decide +kernel)⟩
 |1,h=>cases h;exact⟨Dg 1 (day:=0) (by decide) (by decide +kernel) (by decide +kernel),⟨_,_,_,rfl,.named _ _ _⟩,now 0 (by decide +kernel)⟩
def Pr:GR [king,ann,abbot,bob]:=by
 refine⟨λj r h=>?_,by decide +kernel⟩;match j,h with
 |0,h=>exact Ka.at_ 0 r h
 |1,h=>exact Ka.at_ 1 r h
 |2,h=>cases h;exact⟨Hn (k:=2) (.inr rfl) (by decide +kernel),⟨_,_,_,rfl,.root _ _ 3 (by decide) _⟩,now 0 (by decide +kernel)⟩
 |3,h=>cases h;exact⟨Dg 3 (day:=1) (by decide) (by decide +kernel) (by decide +kernel),⟨_,_,_,rfl,.named _ _ _⟩,now 1 (by decide +kernel)⟩
def Kb {af:LD}(g:GR af)(h2:2<=af.length)(T:af.length<=12)(a b d5:OB)(c:Int)(v5 v6 v7:OB):∃r u5 u6 u7,lD [a,b,lT af,d5,sI c,v5,v6,v7]=some (.nx [a,b,lT (af++[r]),d5,sI c,u5,u6,u7])/\GR (af++[r]):=by
 obtain⟨xs,ex,U,hx⟩:=oM c af.length 9 (by omega) (by decide);have G:8<=xs.length∨xs.length=6:=by omega
 have m0:=mod_lt (x:=xs.getD 0 0) (m:=10) (by decide);have m5:=mod_lt (x:=xs.getD 0 0 / 10) (m:=5) (by decide);have m4:=mod_lt (x:=xs.getD 0 0 / 50) (m:=4) (by decide);obtain⟨day,M⟩:∃d:Nat,xs.getD 0 0 % 10=d:=⟨(xs.getD 0 0 % 10).toNat,by omega⟩;obtain⟨t,Yb,Yc,et⟩:∃t:Int,0<=t/\t<=4/\bH (.lst [.int 0,.int 0,.int 0,.int (xs.getD 0 0 / 10 % 5)]) (.int (xs.getD 0 0 / 50 % 4))=sI t:=by
  have:xs.getD 0 0 / 50 % 4=0∨xs.getD 0 0 / 50 % 4=1∨xs.getD 0 0 / 50 % 4=2∨xs.getD 0 0 / 50 % 4=3:=by omega
  rcases this with h|h|h|h<;>rw[h]
  ·exact⟨0,by decide,by decide,rfl⟩
  ·exact⟨0,by decide,by decide,rfl⟩
  ·exact⟨0,by decide,by decide,rfl⟩
  ·exact⟨_,m5.1,by omega,rfl⟩
 obtain⟨kind,ay,ed,O⟩:=JZ U af.length ⟨by omega,T⟩ day (by omega);have gk:cu (row (day+t) kind ay):=⟨_,_,_,rfl,O.dd⟩;refine⟨row (day+t) kind ay,_,_,_,cI (ds:=xs.map .int) (aP [.int c,.int af.length,.int ((9:Nat):Int)] (cy rfl (cy (aP [.lst af] rfl (by simp)) rfl)) ex) (iW _) (iz (.int day) (M ▸ Ew G rfl 0 (by omega) (by decide)) rfl (iz (.int (day+t)) (bT (.int day) (.int t) rfl (cm (x:=.lst [.int 0,.int 0,.int 0,.int (xs.getD 0 0 / 10 % 5)]) (y:=.int (xs.getD 0 0 / 50 % 4)) (b1:=true) (b2:=false) (aP [.int 0,.int 0,.int 0,.int (xs.getD 0 0 / 10 % 5)] (cy rfl (cy rfl (cy rfl (cy (im (R7 G rfl 0 (by omega) (by decide) (by decide)) (by decide)) rfl)))) (fH _ (by simp))) (im (R7 G rfl 0 (by omega) (by decide) (by decide)) (by decide)) et) rfl) rfl (rH (ds:=af) (d:=row (day+t) kind ay) (b:=false) rfl (aP [.int (day+t),.tup (.str kind::ay)] (cy rfl (cy (aP [.lst (xs.map .int),.int af.length,.int day] (cy rfl (cy (aP [.lst af] rfl (by simp)) rfl)) ed) rfl)) (dq _ (by simp))) gk.flat (dz (by omega))))),g.snoc ⟨_,_,_,rfl,by omega,by omega,O.g _ (by omega)⟩ gk (O.w _) O.nr⟩
def Kc (ns:LI):∃af:LD,sy [.lst (ns.map .int)]=lT af/\GR af/\af.length<=13:=by
 obtain⟨M,e0⟩:=oK ns 0;obtain⟨c1,e1⟩:=oK ns 1;obtain⟨cs,Qk,X3⟩:∃cs:LI,cs.length<=9/\lI (ns.map .int) (some 2) (some 11)=cs.map .int:=by
  refine⟨(ns.drop (min 2 ns.length)).take (min 11 ns.length - min 2 ns.length),?_,?_⟩
  ·rw[length_take,length_drop];omega
  ·unfold lI;rw[rM (by decide),rM (by decide),vI,List.map_take,List.map_drop];rfl
 have O:∀R:LD,GR R->2<=R.length->R.length<=4->∃af,GR af/\af.length<=13/\(aA (aX 3 (yi (am 0) (eY (fI 2)) (eY (fI 11))))
  (aA (di (aW (f2 cY (f2 bY (fA bX (fV 0 (ag (fI 1) aj))) (fI 4)) (fI 1))) (aX 3 (f2 eW (am 3) (fA fG (ag (fA bX (fV 0 (ag (fI 1) aj))) (ag (fI 92) (ag (f2 qD (fI 9) (fA eO (fV 3 aj))) aj)))))) aU)
  (aA (K4 [3] (ma (bP (am 3)) (dF 4) lD))
  (gT 2)))) [sL (ns.map .int),sI M,lT R,none,none,none,none,none]=some (.rt (.lst af) true):=λR gR h2 h4=>by
  let E:LI->DL.Env:=λcs=>[sL (ns.map .int),sI M,lT R,lT (cs.map .int),none,none,none,none];obtain⟨G,X4,ec⟩:∃G:LI,G.length<=9/\di (aW (f2 cY (f2 bY (fA bX (fV 0 (ag (fI 1) aj))) (fI 4)) (fI 1))) (aX 3 (f2 eW (am 3) (fA fG (ag (fA bX (fV 0 (ag (fI 1) aj))) (ag (fI 92) (ag (f2 qD (fI 9) (fA eO (fV 3 aj))) aj)))))) aU (E cs)=some (.nx (E G)):=by
   have ea:fA bX (fV 0 (ag (fI 1) aj)) (E cs)=sI c1:=aP [.lst (ns.map .int),.int 1] rfl e1;have t:aW (f2 cY (f2 bY (fA bX (fV 0 (ag (fI 1) aj))) (fI 4)) (fI 1)) (E cs)=some (decide (c1 % 4=1)):=dj (bT (.int (c1 % 4)) (.int 1) (im ea (by decide)) rfl (Qz _ _));by_cases h:c1 % 4=1
   ·rw[Au h]at t;obtain⟨xs,ex,Nj,_⟩:=oM c1 92 (9 - cs.length) (by decide) (by omega);have es:f2 qD (fI 9) (fA eO (fV 3 aj)) (E cs)=sI ((9 - cs.length:Nat):Int):=bT (.int 9) (.int (cs.length:Int)) rfl (aP [.lst (cs.map .int)] rfl (by simp)) (by
     show some (D.int (9 - (cs.length:Int)),false)=_;rw[show(9:Int) - (cs.length:Int)=((9 - cs.length:Nat):Int) by omega])
    refine⟨cs++xs,by rw[uZ];omega,rG t ((np (ds:=(cs++xs).map .int) (cm (x:=.lst (cs.map .int)) (y:=.lst (xs.map .int)) (b1:=false) (b2:=true) rfl (aP [.int c1,.int ((92:Nat):Int),.int ((9 - cs.length:Nat):Int)] (cy ea (cy rfl (cy es rfl))) ex) ?_) (iW _)).trans rfl)⟩;show(if(cs.map D.int).length+(xs.map D.int).length<=sizeLine then some (D.lst (cs.map D.int++xs.map D.int),true)else none)=_;rw[if_pos (eB (by simp;omega)),uW]
   ·rw[Pz h]at t;exact⟨cs,Qk,ms t rfl⟩
  obtain⟨ρ',e,af,v4,v5,v6,v7,rfl,hr,gr⟩:=fg (tg:=dF 4) (g:=lD) (λi ρ=>∃af v4 v5 v6 v7,ρ=[sL (ns.map .int),sI M,lT af,sL (G.map .int),v4,v5,v6,v7]/\af.length=R.length+i/\GR af) (G.map .int) [sL (ns.map .int),sI M,lT R,sL (G.map .int),none,none,none,none] ⟨R,none,none,none,none,rfl,rfl,gR⟩ (by
   rintro i d ρ hd ⟨af,v4,v5,v6,v7,rfl,hr,gr⟩;rw[vA]at hd;obtain⟨c,X5,rfl⟩:=oY hd;have hi:=(vV X5).1;obtain⟨r,u5,u6,u7,eb,X6⟩:=Kb gr (by omega) (by omega) (sL (ns.map .int)) (sI M) (sL (G.map .int)) c v5 v6 v7;exact⟨_,_,rfl,.inl eb,_,_,_,_,_,rfl,by rw[uZ,length_singleton,hr];omega,X6⟩)
  rw[vI]at hr;refine⟨af,gr,by omega,cI (ds:=cs.map .int) ?_ (iW _) (fj ec (fj (gZ (ds:=G.map .int) rfl e) (l5 rfl)))⟩;show some (D.lst (lI (ns.map .int) (some 2) (some 11)),true)=_;rw[X3]
 have t0:∀x,aW (f2 cY (f2 bY (am 1) (fI 3)) (fI 0)) [sL (ns.map .int),sI M,x,none,none,none,none,none]=some (decide (M % 3=0)):=λx=>dj (bT (.int (M % 3)) (.int 0) (im rfl (by decide)) rfl (Qz _ _));have X7:bB [king,ann]=true:=Ka.flat;have U:∀ {T:FS}{res:Option Res},T [sL (ns.map .int),sI M,lT [king,ann],none,none,none,none,none]=res->_:=λ{T res} (hT:T [sL (ns.map .int),sI M,lT [king,ann],none,none,none,none,none]=res)=>iz (i:=1) (ρ:=[sL (ns.map .int),none,none,none,none,none,none,none]) (.int M) (aP [.lst (ns.map .int),.int 0] (fa:=fV 0 (ag (fI 0) aj)) rfl e0) rfl (cI (i:=2) (ds:=[king,ann]) (f:=fA bS (ag (fA bi (ag (fI 0) (ag (fA bi (ag (fS "root") (ag (fS "king") (ag (fI 7) (ag (fI 3) (ag (fS "open") aj)))))) aj))) (ag (fA bi (ag (fI 0) (ag (fA bi (ag (fS "named") (ag (fI 0) (ag (fS "king") (ag (fS "ann") aj))))) aj))) aj))) rfl X7 hT);by_cases h:M % 3=0
 ·obtain⟨af,gr,hr,e⟩:=O _ Pr (by decide) (by decide);refine⟨af,aw rfl (U (fj (rG ((t0 _).trans (by rw[Au h])) (np (ds:=[king,ann,abbot,bob]) rfl Pr.flat)) e)),gr,hr⟩
 ·obtain⟨af,gr,hr,e⟩:=O _ Ka (by decide) (by decide);exact⟨af,aw rfl (U (aM ((t0 _).trans (by rw[Pz h])) e)),gr,hr⟩
def Kd {ρ:DL.Env}{i:Nat}{d:D}{g:FS}(h:ρ[i]? = some (sF d)):K4 [i] g ρ=g ρ:=by
 show g (unown1 ρ i)=_;unfold unown1;rw[h]
noncomputable abbrev NE (ns:LI)(af:LD)(xs:LI)(b:Bool)(ae day:Int)(T:LD)(G M O:OB):DL.Env:=[sL (ns.map .int),lT af,sT af,some (.lst (xs.map .int),b),sI ae,sI day,lT T,G,M,O]
def MN {xs:LI}(hl:xs.length=6){ρ:DL.Env}{n:Nat}{b:Bool}(h3:ρ[3]? = some (some (.lst (xs.map .int),b)))(M:ρ[7]? = some (sI n)):∃p,PN p/\f2 bH (fA bS (ag (fC .non) (ag (fS "ann") (ag (f2 bH (fA bS (ag (fS "bob") (ag (fS "cid") (ag (fS "dan") (ag (fS "eve") aj))))) (f2 bY (bW 3 4) (fI 4))) aj)))) (f2 bY (f2 eW (am 7) (bW 3 5)) (fI 3)) ρ=some (p,false):=by
 have G:8<=xs.length∨xs.length=6:=by omega
 have m4:=mod_lt (x:=xs.getD 4 0) (m:=4) (by decide);have m3:=mod_lt (x:=(n:Int)+xs.getD 5 0) (m:=3) (by decide);obtain⟨z,_,O⟩:=yc (zs:=(["bob","cid","dan","eve"]:LS)) (i:=xs.getD 4 0 % 4) (by show -4<=_;omega) (by show _<4;omega);have ei:f2 bY (f2 eW (am 7) (bW 3 5)) (fI 3) ρ=sI (((n:Int)+xs.getD 5 0) % 3):=im (bT (.int n) (.int (xs.getD 5 0)) (by simp[M]) (Q0 G h3 5 (by omega)) rfl) (by decide);have T:fA bS (ag (fC .non) (ag (fS "ann") (ag (f2 bH (fA bS (ag (fS "bob") (ag (fS "cid") (ag (fS "dan") (ag (fS "eve") aj))))) (f2 bY (bW 3 4) (fI 4))) aj))) ρ=lT [.non,.str "ann",.str z]:=aP [.non,.str "ann",.str z] (cy rfl (cy rfl (cy (cm (x:=.lst ((["bob","cid","dan","eve"]:LS).map .str)) (y:=.int (xs.getD 4 0 % 4)) (b1:=true) (b2:=false) (aP [.str "bob",.str "cid",.str "dan",.str "eve"] rfl (fH _ (by simp))) (Ew G h3 4 (by omega) (by decide)) O) rfl))) (fH _ (by simp));obtain⟨p,hp,U⟩:∃p,PN p/\bH (.lst [.non,.str "ann",.str z]) (.int (((n:Int)+xs.getD 5 0) % 3))=some (p,false):=by
  have:((n:Int)+xs.getD 5 0) % 3=0∨((n:Int)+xs.getD 5 0) % 3=1∨((n:Int)+xs.getD 5 0) % 3=2:=by omega
  rcases this with h|h|h<;>rw[h]
  ·exact⟨.non,.inl rfl,rfl⟩
  ·exact⟨_,.inr ⟨_,rfl⟩,rfl⟩
  ·exact⟨_,.inr ⟨_,rfl⟩,rfl⟩
 exact⟨p,hp,cm T ei U⟩
section
variable {af:LD}(gr:GR af) (hr:af.length<=13) (ns xs:LI) (Nj:xs.length=6)
include gr hr Nj
theorem Ps (ae day:Int){n:Nat}(hn:n<af.length)(b:Bool)(M O:OB):∃U u9,Bm (NE ns af xs b ae day (ga (bV af ae day)) (sI n) M O)=some (.nx (NE ns af xs b ae day (ga (bV af ae day)) (sI n) U u9)):=by
 have g:∀r∈af,cu r:=λr h=>by obtain⟨j,hj⟩:=mem_iff_getElem?.mp h;exact(gr.at_ j r hj).2.1
 have gw:∀r∈af,Af r:=λr h=>by obtain⟨j,hj⟩:=mem_iff_getElem?.mp h;exact(gr.at_ j r hj).2.2
 have G:((bQ (au af ae)).map (a8 0)).Nodup:=gr.off.sublist (Ae af ae);have ho:(cO (au af ae)).length<=60:=by
  unfold cO;rw[(bF _ _).length_eq];exact vR (vM _ _) (vR (c6 af ae) (by omega))
 obtain⟨p,hp,ep⟩:=MN (ρ:=NE ns af xs b ae day (ga (bV af ae day)) (sI n) M O) (n:=n) Nj rfl rfl;obtain⟨v,T,e2⟩:=JH g gw (by omega) ae G ho day hn hp;have pf:b8 p=true:=by rcases hp with rfl|⟨_,rfl⟩<;>rfl
 let E:DL.Env:=NE ns af xs b ae day (ga (bV af ae day)) (sI n) (some (p,false)) (sO v);have t1:dR (cx (aW (fA bD (fV 9 (ag (fC (.ty "bool")) aj))))) (aW (f2 xn (am 9) (fA qo (fV 1 (fV 6 (fV 7 (fV 5 (fV 8 aj)))))))) E=some false:=(de (p:=false) (q:=false) (ca (p:=true) (dj (aP [.bl v,.ty "bool"] rfl rfl))) λ_=>dj (bT (.bl v) (.bl v) rfl (aP [.lst af,.lst (ga (bV af ae day)),.int n,.int day,p] rfl e2) (Ad rfl))).trans rfl;have t2:dm (aW (f2 qJ (am 8) (fC .non))) (aW (f2 xn (Rx lC (fV 2 (fV 4 (fV 5 (fV 7 aj))))) (am 9))) E=some false:=by
  rcases hp with rfl|⟨s,rfl⟩
  ·exact cJ (p:=true) (q:=false) (dj (bT .non .non rfl rfl rfl)) λ_=>dj (bT (.bl v) (.bl v) (by show lC [.tup af,.int ae,.int day,.int n,.non]=_;exact T) rfl (Ad rfl))
  ·exact cJ (p:=false) (q:=false) (dj (bT (.str s) .non rfl rfl rfl)) λz=>by cases z
 exact⟨_,_,iz p ep pf (iz (.bl v) (aP [.tup af,.int ae,.int day,.int n,p] rfl T) rfl (fj (ms t1 rfl) (ms t2 rfl)))⟩
theorem Pt (ae day:Int)(b:Bool)(v6 U v8 v9:OB):∃u6 O G M,Bn [sL (ns.map .int),lT af,sT af,some (.lst (xs.map .int),b),sI ae,sI day,v6,U,v8,v9]=some (.nx [sL (ns.map .int),lT af,sT af,some (.lst (xs.map .int),b),sI ae,sI day,u6,O,G,M]):=by
 have g:∀r∈af,cu r:=λr h=>by obtain⟨j,hj⟩:=mem_iff_getElem?.mp h;exact(gr.at_ j r hj).2.1
 have T:((bQ (au af ae)).map (a8 0)).Nodup:=gr.off.sublist (Ae af ae);have ho:(cO (au af ae)).length<=60:=by
  unfold cO;rw[(bF _ _).length_eq];exact vR (vM _ _) (vR (c6 af ae) (by omega))
 obtain⟨ρ',e,O,G,M,rfl⟩:=rA (tg:=dF 7) (g:=Bm) af.length (λi ρ=>∃O G M,ρ=NE ns af xs b ae day (ga (bV af ae day)) O G M) (NE ns af xs b ae day (ga (bV af ae day)) U v8 v9) ⟨_,_,_,rfl⟩ (by
  rintro i ρ hi ⟨O,G,M,rfl⟩;obtain⟨w8,w9,eb⟩:=Ps gr hr ns xs Nj ae day hi b G M;exact⟨_,_,rfl,.inl eb,_,_,_,rfl⟩)
 exact⟨_,_,_,_,cI (ds:=ga (bV af ae day)) (aP [.tup af,.int ae,.int day] rfl (pN g (by omega) ae T ho day)) (Eo _) (rJ (o9 (j:=af.length) (b:=false) (aP [.lst af] rfl (by simp)) (by omega)) e)⟩
theorem Pu (ae:Int)(v5 v6 v7 v8 v9:OB):∃U G M O T,Bo [sL (ns.map .int),lT af,sT af,sL (xs.map .int),sI ae,v5,v6,v7,v8,v9]=some (.nx [sL (ns.map .int),lT af,sT af,sL (xs.map .int),sI ae,U,G,M,O,T]):=by
 have QK:8<=xs.length∨xs.length=6:=by omega
 obtain⟨ρ',e,U,G,M,O,T,rfl⟩:=fg (tg:=dF 5) (g:=Bn) (λi ρ=>∃U G M O T,ρ=[sL (ns.map .int),lT af,sT af,sL (xs.map .int),sI ae,U,G,M,O,T]) [.int (xs.getD 1 0 % 6),.int (5+xs.getD 2 0 % 14)] [sL (ns.map .int),lT af,sT af,sL (xs.map .int),sI ae,v5,v6,v7,v8,v9] ⟨_,_,_,_,_,rfl⟩ (by
  rintro i d ρ hd ⟨U,G,M,O,T,rfl⟩;obtain⟨day,rfl⟩:∃day:Int,d=.int day:=by
   have:=vL hd;simp only[mem_cons,not_mem_nil,or_false]at this;rcases this with h|h<;>exact⟨_,h⟩
  obtain⟨w6,w7,w8,w9,eb⟩:=Pt gr hr ns xs Nj ae day false G M O T;exact⟨_,_,rfl,.inl eb,_,_,_,_,_,rfl⟩)
 refine⟨_,_,_,_,_,(Kd rfl).trans (gZ (ds:=[.int (xs.getD 1 0 % 6),.int (5+xs.getD 2 0 % 14)]) ?_ e)⟩;have el:fA bS (ag (f2 bY (bW 3 1) (fI 6)) (ag (f2 eW (fI 5) (f2 bY (bW 3 2) (fI 14))) aj)) (jz [sL (ns.map .int),lT af,sT af,sL (xs.map .int),sI ae,v5,v6,v7,v8,v9])=lT [.int (xs.getD 1 0 % 6),.int (5+xs.getD 2 0 % 14)]:=aP [.int (xs.getD 1 0 % 6),.int (5+xs.getD 2 0 % 14)] (cy (Ew (b:=false) QK rfl 1 (by omega) (by decide)) (cy (bT (.int 5) (.int (xs.getD 2 0 % 14)) rfl (Ew (b:=false) QK rfl 2 (by omega) (by decide)) rfl) rfl)) (fH _ (by simp));show(fA bS _ _).bind _=_;rw[el];rfl
end
def law_true (ns:LI)(MW:ns.length<=63):∃b,F_law [.lst (ns.map .int)]=some (.bl true,b):=by
 obtain⟨af,er,G,hr⟩:=Kc ns;obtain⟨c1,e1⟩:=oK ns 1;obtain⟨xs,ex,Nj,hx⟩:=oM c1 60 6 (by decide) (by decide);have QK:8<=xs.length∨xs.length=6:=by omega
 have M:=Ao (af:=af) ⟨by omega,λj r h=>(G.at_ j r h).1⟩ G.flat (.lst af) (.inl rfl);obtain⟨ρ',e,u4,O,T,U,u8,u9,rfl⟩:=fg (tg:=dF 4) (g:=Bo) (λi ρ=>∃u4 O T U u8 u9,ρ=[sL (ns.map .int),lT af,sT af,sL (xs.map .int),u4,O,T,U,u8,u9]) [.int 9999,.int (xs.getD 0 0 % 12)] [sL (ns.map .int),lT af,sT af,sL (xs.map .int),none,none,none,none,none,none] ⟨_,_,_,_,_,_,rfl⟩ (by
  rintro i d ρ hd ⟨u4,O,T,U,u8,u9,rfl⟩;obtain⟨ae,rfl⟩:∃ae:Int,d=.int ae:=by
   have:=vL hd;simp only[mem_cons,not_mem_nil,or_false]at this;rcases this with h|h<;>exact⟨_,h⟩
  obtain⟨w5,w6,w7,w8,w9,eb⟩:=Pu G hr ns xs Nj ae O T U u8 u9;exact⟨_,_,rfl,.inl eb,_,_,_,_,_,_,rfl⟩)
 have el:fA bS (ag (fI 9999) (ag (f2 bY (bW 3 0) (fI 12)) aj)) (jz [sL (ns.map .int),lT af,sT af,sL (xs.map .int),none,none,none,none,none,none])=lT [.int 9999,.int (xs.getD 0 0 % 12)]:=aP [.int 9999,.int (xs.getD 0 0 % 12)] (cy rfl (cy (Ew (b:=false) QK rfl 0 (by omega) (by decide)) rfl)) (fH _ (by simp));refine⟨false,aw rfl (cI (ds:=af) (aP [.lst (ns.map .int)] rfl er) G.flat (iz (.tup af) (aP [.lst af] rfl M) (by simp[G.flat]) (cI (ds:=xs.map .int) (aP [.int c1,.int ((60:Nat):Int),.int ((6:Nat):Int)] (cy (aP [.lst (ns.map .int),.int 1] rfl e1) rfl) ex) (iW _) (fj (gZ (ds:=[.int 9999,.int (xs.getD 0 0 % 12)]) ?_ e) (ax rfl)))))⟩;show bP (fA bS (ag (fI 9999) (ag (f2 bY (bW 3 0) (fI 12)) aj))) (jz [sL (ns.map .int),lT af,sT af,sL (xs.map .int),none,none,none,none,none,none])=_;unfold bP;rw[el];rfl
end Lw
namespace Lw
open PySem PySem.Spec PyProof.Rows L2 DL
noncomputable def cV (i:Nat):Stmt:=PySem.Challenge.pw_sealchain_k41_days_on_which_papers_hold.main.body.getD i (.Pass ⟨0,0,0,0⟩)
section
variable {X:Cx}{es Sd:QD}{f:FE}{g:FA}{pos:Pos}{k:Nat}
def pY {c:Const}(h:JE X (.Constant c k pos) f)(G:JA X es g):JA X (.Constant c k pos::es) (ag f g):=ai h G
def Ar (h:JE X (.Tuple Sd k pos) f)(G:JA X es g):JA X (.Tuple Sd k pos::es) (ag f g):=ai h G
end
structure Tx (w:World)(K:Frag)(mg:Str->Option Value):Prop where
 hX:∃h,K.In h/\h.Ns mainGlobals mg
 d0:cD K "is_whole" (cV 6)
 d1:cD K "is_day" (cV 7)
 d2:cD K "is_stretch" (cV 8)
 d3:cD K "is_matters" (cV 12)
 d4:cD K "is_name" (cV 22)
 d5:cD K "is_rule" (cV 24)
 d6:cD K "is_piece" (cV 23)
 d7:cD K "is_pieces" (cV 25)
 d8:cD K "is_change" (cV 26)
 d9:cD K "is_changes" (cV 27)
 d10:cD K "is_part" (cV 28)
 d11:cD K "is_deed" (cV 29)
 d12:cD K "word_of" (cV 32)
 d13:cD K "part_of" (cV 33)
 d14:cD K "day_of" (cV 34)
 d15:cD K "is_timely" (cV 30)
 d16:cD K "is_row" (cV 31)
 d17:cD K "root_offices" (cV 39)
 d18:cD K "is_second_root" (cV 40)
 d19:cD K "parts_in" (cV 35)
 d20:cD K "people_in" (cV 36)
 d21:cD K "count_people" (cV 41)
 d22:cD K "is_refused" (cV 42)
 d23:cD K "register_of" (cV 43)
 d24:cD K "heard" (cV 44)
 d25:cD K "rank" (cV 46)
 d26:cD K "in_order" (cV 48)
 d27:cD K "by_office" (cV 60)
 d28:cD K "roots" (cV 49)
 d29:cD K "is_known" (cV 45)
 d30:cD K "tells" (cV 52)
 d31:cD K "told_of" (cV 53)
 d32:cD K "lives" (cV 54)
 d33:cD K "has_seal" (cV 55)
 d34:cD K "is_sound" (cV 56)
 d35:cD K "lies_in" (cV 9)
 d36:cD K "is_alive" (cV 58)
 d37:cD K "by_since" (cV 59)
 d38:cD K "chief_of" (cV 61)
 d39:cD K "holder_by" (cV 62)
 d40:cD K "is_held_by" (cV 63)
 d41:cD K "is_first_death" (cV 64)
 d42:cD K "counts" (cV 65)
 d43:cD K "new_claim" (cV 66)
 d44:cD K "ended" (cV 67)
 d45:cD K "after_choice" (cV 68)
 d46:cD K "inherited" (cV 69)
 d47:cD K "after_death" (cV 70)
 d48:cD K "claims" (cV 71)
 d49:cD K "is_paper" (cV 74)
 d50:cD K "is_leave" (cV 75)
 d51:cD K "is_borne" (cV 76)
 d52:cD K "covers" (cV 13)
 d53:cD K "reach_bar" (cV 80)
 d54:cD K "office_bar" (cV 81)
 d55:cD K "office_bases" (cV 84)
 d56:cD K "ends_within" (cV 11)
 d57:cD K "is_within" (cV 10)
 d58:cD K "is_ahead" (cV 47)
 d59:cD K "leave_bar" (cV 82)
 d60:cD K "leaves_to" (cV 83)
 d61:cD K "leave_bases" (cV 85)
 d62:cD K "copy_bases" (cV 86)
 d63:cD K "bases_by" (cV 87)
 d64:cD K "may_call" (cV 77)
 d65:cD K "calls_in" (cV 78)
 d66:cD K "calls_by" (cV 79)
 d67:cD K "is_fit" (cV 88)
 d68:cD K "links" (cV 89)
 d69:cD K "bears" (cV 90)
 d70:cD K "stood" (cV 91)
 d71:cD K "standing" (cV 92)
 d72:cD K "paper_behind" (cV 94)
 d73:cD K "holding" (cV 95)
 d74:cD K "whom_of" (cV 96)
 d75:Jh K "holds" (cV 97)
 d76:cD K "_law_cell_at" (cV 99)
 d77:cD K "_law_stream" (cV 100)
 d78:cD K "_law_stretch" (cV 101)
 d79:cD K "_law_deed" (cV 102)
 d80:cD K "_law_rows" (cV 103)
 d81:cD K "_law_due" (cV 104)
 d82:cD K "law" (cV 105)
 n0:mg "all" = none
 n1:mg "any" = none
 n2:mg "bool" = none
 n3:mg "dict" = none
 n4:mg "enumerate" = none
 n5:mg "int" = none
 n6:mg "isinstance" = none
 n7:mg "len" = none
 n8:mg "list" = none
 n9:mg "max" = none
 n10:mg "min" = none
 n11:mg "range" = none
 n12:mg "set" = none
 n13:mg "sorted" = none
 n14:mg "str" = none
 n15:mg "tuple" = none
 n16:mg "zip" = none
 k0:KC K mg "ALL_MATTERS" lP
 k1:KC K mg "LAST_DAY" rN
 k2:KC K mg "MOST_FURTHER" kP
 k3:KC K mg "MOST_LETTERS" kQ
 k4:KC K mg "MOST_PEOPLE" lQ
 k5:KC K mg "MOST_PIECES" jk
 k6:KC K mg "MOST_ROWS" iY
 k7:KC K mg "PAPERS" zw
 k8:KD w K mg "PARTS" bM
 k9:KC K mg "PERSON_PARTS" eC
 k10:KC K mg "RULES" C0
 k11:KC K mg "SEALINGS" i6
 l26:Bb K "in_order"
 l33:Bb K "has_seal"
 l41:Bb K "is_first_death"
 l63:Bb K "bases_by"
section
variable {P:Program}{w:World}{K:Frag}{mg:SV}{base:Heap}(T:Tx w K mg)
include T
theorem f0:Fn P w K mg base 1 "is_whole" gg:=T.d0.fq T.hX rO ["thing","least","most"] 3 λnd G hu=>
  (aS (du (aL bL T.n6 bJ (aJ 0 (ai (iT T.n5 OF) ao))) (du (LW (aL bL T.n6 bJ (aJ 0 (ai (iT T.n2 Fm) ao)))) (c8 (qB gV gV (ak 1) (ak 0) (ak 2))))))
theorem f1:Fn P w K mg base 2 "is_day" i7:=T.d1.fq T.hX zx ["thing"] 1 λnd G hu=>
  (aS (aZ (f0 T) G (aJ 0 (dH (ai (cZ T.k1) ao)))))
theorem f2:Fn P w K mg base 3 "is_stretch" nu:=T.d2.fq T.hX nq ["thing"] 1 λnd G hu=>
  (aq (br (fB (dG (cn (bx (aL bL T.n6 bJ (aJ 0 (ai (iT T.n15 iU) ao))))) (dG (aB (xo hu) (aL fK T.n7 eZ (aJ 0 ao)) a9) (cX (cn (bx (aZ (f1 T) G (ai (aV 0) ao)))))))) cP)
   (aS (mN (bI pR (aV 0) cz) (c8 (du (aZ (f1 T) G (ai (aV 0) ao)) (c8 (bI kB (aV 0) (aV 0))))))))
theorem f3:Fn P w K mg base 2 "is_matters" nw:=T.d3.fq T.hX nv ["thing"] 1 λnd G hu=>
  (aS (aZ (f0 T) G (aJ 0 (dH (ai (cZ T.k0) ao)))))
theorem f4:Fn P w K mg base 1 "is_name" l7:=T.d4.fq T.hX wg ["thing"] 1 λnd G hu=>
  (aq (br (fB (dG (cn (bx (aL bL T.n6 bJ (aJ 0 (ai (iT T.n14 Fo) ao))))) (cX (cn (y6 gV gV a9 (aL fK T.n7 eZ (aJ 0 ao)) (cZ T.k3)))))) cP)
   (aS (aL yI T.n0 yG (ai (fP ["sign"] (bK (ak 0)) gO (qB gV gV a7 (ak 0) a7)) ao))))
theorem f5:Fn P w K mg base 1 "is_rule" wj:=T.d5.fq T.hX wh ["thing"] 1 λnd G hu=>
  (aS (du (aL bL T.n6 bJ (aJ 0 (ai (iT T.n14 Fo) ao))) (c8 (bI uI (ak 0) (cZ T.k10)))))
theorem f6:Fn P w K mg base 2 "is_piece" mu:=T.d6.fq T.hX rP ["thing"] 1 λnd G hu=>
  (aS (a0 (f4 T) G))
theorem f7:Fn P w K mg base 3 "is_pieces" pj:=T.d7.fq T.hX pi ["thing"] 1 λnd G hu=>
  (aq (br (fB (dG (cn (bx (aL bL T.n6 bJ (aJ 0 (ai (iT T.n15 iU) ao))))) (cX (cn (y6 gV gV a9 (aL fK T.n7 eZ (aJ 0 ao)) (cZ T.k5)))))) cP)
   (aS (aL yI T.n0 yG (ai (fP ["piece"] (bK (ak 0)) gO (a0 (f6 T) G)) ao))))
theorem f8:Fn P w K mg base 3 "is_change" px:=T.d8.fq T.hX pq ["thing"] 1 λnd G hu=>
  (aq (br (fB (dG (cn (bx (aL bL T.n6 bJ (aJ 0 (ai (iT T.n15 iU) ao))))) (cX (aB (xo hu) (aL fK T.n7 eZ (aJ 0 ao)) a9)))) cP)
   (aS (du (aZ (f0 T) G (ai (aV 0) (dH (ai (bg y7 (cZ T.k5) a9) ao)))) (c8 (aZ (f6 T) G (ai (aV 0) ao))))))
theorem f9:Fn P w K mg base 4 "is_changes" nA:=T.d9.fq T.hX ny ["thing","places"] 1 λnd G hu=>
  (aq (br (fB (dG (cn (bx (aL bL T.n6 bJ (aJ 0 (ai (iT T.n15 iU) ao))))) (cX (cn (bx (aL yI T.n0 yG (ai (fP ["change"] (bK (ak 0)) gO (a0 (f8 T) G)) ao))))))) cP)
   (aq (lO ["change"] nd (bK (ak 0)) gO (aV 0))
   (aS (aL yI T.n0 yG (ai (fP ["place","later"] (F6 T.n16 (ak 1) (gH (ak 1) (gY a9) jM)) gO (bI kB (ak 0) (ak 1))) ao)))))
theorem f10:Fn P w K mg base 5 "is_part" hW:=T.d10.fq T.hX wl ["part","thing"] 2 λnd G hu=>
  (aq (br (fB (dG (aB (cq hu) (ak 0) a7) (cX (aB (cq hu) (ak 0) a7)))) (a0 (f1 T) G))
   (aq (br (fB (dG (aB (cq hu) (ak 0) a7) (dG (aB (cq hu) (ak 0) a7) (cX (aB (cq hu) (ak 0) a7))))) (a0 (f4 T) G))
   (aq (br (aB (cq hu) (ak 0) a7) (mN (bI pR (ak 1) cz) (c8 (a0 (f4 T) G))))
   (aq (br (aB (cq hu) (ak 0) a7) (a0 (f3 T) G))
   (aq (br (aB (cq hu) (ak 0) a7) (a0 (f2 T) G))
   (aq (br (aB (cq hu) (ak 0) a7) (aZ (f0 T) G (aJ 1 (dH (ai (cZ T.k2) ao)))))
   (aq (br (aB (cq hu) (ak 0) a7) (a0 (f5 T) G))
   (aq (br (aB (cq hu) (ak 0) a7) (aZ (f0 T) G (aJ 1 (dH (ai (bg y7 (cZ T.k6) a9) ao)))))
   (aq (br (aB (cq hu) (ak 0) a7) (a0 (f7 T) G))
   (aS (a0 (f9 T) G)))))))))))
theorem f11:Fn P w K mg base 6 "is_deed" oA:=T.d11.fq T.hX wm ["thing"] 1 λnd G hu=>
  (aq (br (fB (dG (cn (bx (aL bL T.n6 bJ (aJ 0 (ai (iT T.n15 iU) ao))))) (dG (aB (cq hu) (aL fK T.n7 eZ (aJ 0 ao)) a9) (cX (cn (bx (aL bL T.n6 bJ (ai (aV 0) (ai (iT T.n14 Fo) ao))))))))) cP)
   (aq (br (fB (dG (DJ T.k8 (aV 0)) (cX (aB (xo hu) (aL fK T.n7 eZ (aJ 0 ao)) (bg da a9 (aL fK T.n7 eZ (ai (xw T.k8 (aV 0)) ao))))))) cP)
   (aS (aL yI T.n0 yG (ai (fP ["part","value"] (F6 T.n16 (xw T.k8 (aV 0)) (gH (ak 0) (gY a9) jM)) gO (a0 (f10 T) G)) ao)))))
theorem tW:Fn P w K mg base 1 "word_of" aD:=T.d12.fq T.hX wn ["row"] 1 λnd G hu=>
  (aS (aY (aV 0) a9))
theorem ju:Fn P w K mg base 2 "part_of" av:=T.d13.fq T.hX wo ["row","part"] 2 λnd G hu=>
  (aS (aY (aV 0) (bg da a9 (IS T.k8 (a0 (tW T) G) (ak 1)))))
theorem A0:Fn P w K mg base 3 "day_of" aR:=T.d14.fq T.hX zy ["row"] 1 λnd G hu=>
  (aq (br (aB (cq hu) (a0 (tW T) G) a7) cz)
   (aS (a0 (ju T) G)))
theorem Vf:Fn P w K mg base 4 "is_timely" kR:=T.d15.fq T.hX pz ["row","day"] 1 λnd G hu=>
  (aq (aI nd (a0 (A0 T) G))
   (aq (br (aB pR (ak 1) cz) cP)
   (aq (br (fB (ie (aB (cq hu) (a0 (tW T) G) a7) (fL (aB kB (a0 (ju T) G) (ak 1))))) cP)
   (aS (bI gV (ak 1) (aV 0))))))
theorem Vg:Fn P w K mg base 7 "is_row" rQ:=T.d16.fq T.hX z4 ["thing"] 1 λnd G hu=>
  (aq (br (fB (dG (cn (bx (aL bL T.n6 bJ (aJ 0 (ai (iT T.n15 iU) ao))))) (cX (aB (xo hu) (aL fK T.n7 eZ (aJ 0 ao)) a9)))) cP)
   (aS (du (aZ (f1 T) G (ai (aV 0) ao)) (du (aZ (f11 T) G (ai (aV 0) ao)) (c8 (a0 (Vf T) G))))))
theorem Vh:Fn P w K mg base 3 "root_offices" iA:=T.d17.fq T.hX kT ["rows"] 1 λnd G hu=>
  (aS (fP ["row"] (bK (ak 0)) (dY (aB (cq hu) (a0 (tW T) G) a7)) (a0 (ju T) G)))
theorem Vi:Fn P w K mg base 4 "is_second_root" gh:=T.d18.fq T.hX jB ["ahead","row"] 2 λnd G hu=>
  (aS (du (bI (cq hu) (a0 (tW T) G) a7) (c8 (bI uI (a0 (ju T) G) (a0 (Vh T) G)))))
theorem Vj:Fn P w K mg base 2 "parts_in" gm:=T.d19.fq T.hX rR ["row"] 1 λnd G hu=>
  (aS (Bh rfl T.n8 T.n16 (xw T.k8 (a0 (tW T) G)) (gH (aV 0) (gY a9) jM)))
theorem Vk:Fn P w K mg base 3 "people_in" gI:=T.d20.fq T.hX p0 ["row","names"] 1 λnd G hu=>
  (aq (lO ["part","value"] nd (bK (a0 (Vj T) G)) (dY (fB (ie (aB uI (ak 0) (cZ T.k9)) (fL (aB mP (ak 1) cz))))) (ak 1))
   (aS (mn rfl T.n13 T.n12 (ak 1))))
theorem Vl:Fn P w K mg base 4 "count_people" iB:=T.d21.fq T.hX kU ["rows","names","row"] 1 λnd G hu=>
  (aq (aI nd (cB ao))
   (aq (nn (bK (ak 0)) (DX 2 nd) dW (bv (Mj (i:=1) (a0 (Vk T) G))))
   (aS (DH rfl T.n7 T.n12 (ak 1)))))
theorem Vm:Fn P w K mg base 8 "is_refused" jT:=T.d22.fq T.hX nB ["book","place"] 2 λnd G hu=>
  (aq (br (fB (dG (aB LY (ak 1) (cZ T.k6)) (cX (cn (bx (aZ (Vg T) G (ai (aY (ak 0) (ak 1)) ao))))))) cP)
   (aS (mN (aZ (Vi T) G (ai (gH (ak 0) jM (gY (ak 1))) (ai (aY (ak 0) (ak 1)) ao))) (c8 (bI Fi (aZ (Vl T) G (ai (gH (ak 0) jM (gY (bg da (ak 1) a9))) ao)) (cZ T.k4))))))
theorem Vn:Fn P w K mg base 9 "register_of" jl:=T.d23.fq T.hX lR ["rows","book","place"] 1 λnd G hu=>
  (aq (iR (cn (bx (aL DM T.n6 bJ (aJ 0 (ai (bq (ai (iT T.n8 Fp) (ai (iT T.n15 iU) ao))) ao))))) (bv yN) jh)
   (aq (aI nd (uH II T.n15 iU (aJ 0 ao)))
   (aq (Gv (qL T.n11 (aL fK T.n7 eZ (aJ 1 ao))) (DX 2 nd) dW (bv (iR (bx (a0 (Vm T) G)) (bv yN) jh)))
   (bv (iS 1)))))
theorem Pw:Fn P w K mg base 1 "heard" cE:=T.d24.fq T.hX C1 ["book","known"] 2 λnd G hu=>
  (aS (fP ["number","row","known"] (IK T.n4 (ak 0)) (dY (aB gV (aV 1) (ak 2))) (ak 0)))
theorem Px:Fn P w K mg base 4 "rank" fE:=T.d25.fq T.hX G0 ["book","number"] 2 λnd G hu=>
  (aS (bq (ai (aZ (A0 T) G (ai (aY (ak 0) (ak 1)) ao)) (aJ 1 ao))))
theorem Tv:Fn P w K mg base 8 "in_order" eE:=T.d26.fqL T.hX rS ["book","known","dated"] 2 λnd G hu M=>
  (aq (lO ["number","book"] nd (bK (a0 (Pw T) G)) (dY (aB mP (aZ (A0 T) G (ai (aY (ak 1) (ak 0)) ao)) cz)) (ak 0))
   (aS (FU FQ T.n13 (ak 2) (xG (cap:=[0]) (N':=["number","book"]) (by decide +kernel) T.l26 M rfl rfl (Cm (by decide +kernel) rfl rfl rfl rfl rfl) rfl (.cons rfl rfl (Or.inl rfl) rfl (qe (by decide +kernel) rfl) (.nil rfl)) rfl G.in1.in1 (λ_ _ _ _=>rfl) λ_ _ _ _ G=>have hu:=AI G;(a0 (Px T) G)))))
theorem Vo:Fn P w K mg base 1 "by_office" gJ:=T.d27.fq T.hX p4 ["claim"] 1 λnd G hu=>
  (aS (bq (ai (aV 0) (ai (aV 0) (ai (aV 0) ao)))))
theorem R9:Fn P w K mg base 3 "roots" gE:=T.d28.fq T.hX C2 ["book","known","known_rows"] 2 λnd G hu=>
  (aq (lO ["number","book"] nd (bK (a0 (Pw T) G)) gO (aY (ak 1) (ak 0)))
   (aS (uH (Ms rfl) T.n3 Mr (ai (fP ["row"] (bK (ak 2)) (dY (aB (cq hu) (a0 (tW T) G) a7)) (bq (ai (a0 (ju T) G) (aJ 0 ao)))) ao))))
theorem RA:Fn P w K mg base 1 "is_known" cC:=T.d29.fq T.hX rT ["book","known","number"] 3 λnd G hu=>
  (aS (du (qB gV kB a9 (ak 2) (aL fK T.n7 eZ (aJ 0 ao))) (c8 (bI gV (aY (aY (ak 0) (ak 2)) a9) (ak 1)))))
theorem Vp:Fn P w K mg base 4 "tells" ql:=T.d30.fq T.hX C3 ["row","words","person","day"] 4 λnd G hu=>
  (aS (du (bI uI (a0 (tW T) G) (ak 1)) (du (bI (cq hu) (a0 (ju T) G) (ak 2)) (c8 (bI gV (a0 (A0 T) G) (ak 3))))))
theorem RB:Fn P w K mg base 5 "told_of" hZ:=T.d31.fq T.hX wt ["book","known","words","person","day"] 5 λnd G hu=>
  (aS (fP ["number","words","person","day","book"] (bK (a0 (Pw T) G)) (dY (bx (aZ (Vp T) G (ai (aY (ak 4) (ak 0)) (aJ 1 (aJ 2 (aJ 3 ao))))))) (ak 0)))
theorem Tw:Fn P w K mg base 6 "lives" nD:=T.d32.fq T.hX C4 ["book","known","person","day"] 4 λnd G hu=>
  (aS (bI (cq hu) (aL fK T.n7 eZ (ai (aZ (RB T) G (aJ 0 (aJ 1 (ai (bq (ai a7 ao)) (aJ 2 (aJ 3 ao)))))) ao)) a9))
theorem Vq:Fn P w K mg base 8 "has_seal" mv:=T.d33.fqL T.hX rV ["book","known","person","day","told"] 4 λnd G hu M=>
  (aq (aI nd (aZ (RB T) G (aJ 0 (aJ 1 (ai (bq (ai a7 (ai a7 ao))) (aJ 2 (aJ 3 ao)))))))
   (aq (br (aB (cq hu) (aL fK T.n7 eZ (aJ 4 ao)) a9) cP)
   (aS (bI (cq hu) (aZ (tW T) G (ai (aY (ak 0) (zm Tn T.n9 (ak 4) (xG (cap:=[0]) (N':=["number","book"]) (by decide +kernel) T.l33 M rfl rfl (Cm (by decide +kernel) rfl rfl rfl rfl rfl) rfl (.cons rfl rfl (Or.inl rfl) rfl (qe (by decide +kernel) rfl) (.nil rfl)) rfl G.in1 (λ_ _ _ _=>rfl) λ_ _ _ _ G=>have hu:=AI G;(a0 (Px T) G)) G)) ao)) a7))))
theorem RC:Fn P w K mg base 9 "is_sound" gn:=T.d34.fq T.hX rW ["book","known","number","sealer","day"] 3 λnd G hu=>
  (aq (br (fB (dG (cn (bx (a0 (RA T) G))) (cX (aB kF (aZ (tW T) G (ai (aY (ak 0) (ak 2)) ao)) (cZ T.k11))))) cP)
   (aq (aI nd (aZ (ju T) G (ai (aY (ak 0) (ak 2)) (ai a7 ao))))
   (aq (aI nd (aZ (A0 T) G (ai (aY (ak 0) (ak 2)) ao)))
   (aS (du (a0 (Tw T) G) (c8 (a0 (Vq T) G)))))))
theorem RD:Fn P w K mg base 1 "lies_in" gp:=T.d35.fq T.hX wu ["day","stretch"] 2 λnd G hu=>
  (aS (du (bI gV (aV 1) (ak 0)) (c8 (mN (bI pR (aV 1) cz) (c8 (bI kB (ak 0) (aV 1)))))))
theorem RE:Fn P w K mg base 2 "is_alive" cN:=T.d36.fq T.hX rX ["claim","day"] 2 λnd G hu=>
  (aS (aZ (RD T) G (aJ 1 (ai (bq (ai (aV 0) (ai (aV 0) ao))) ao))))
theorem RF:Fn P w K mg base 1 "by_since" dA:=T.d37.fq T.hX rY ["claim"] 1 λnd G hu=>
  (aS (bq (ai (aV 0) (ai (aV 0) ao))))
theorem Vr:Fn P w K mg base 5 "chief_of" mw:=T.d38.fq T.hX rZ ["alive","rule"] 2 λnd G hu=>
  (aq (br (aB (cq hu) (ak 1) a7) (aY (zm Tn T.n9 (ak 0) (Co (RF T) (G.in1.mono (by decide)) rfl) G) a9))
   (aS (aY (zm Rt T.n10 (ak 0) (Co (RF T) (G.in1.mono (by decide)) rfl) G) a9)))
theorem Tz:Fn P w K mg base 6 "holder_by" eF:=T.d39.fq T.hX p5 ["claimed","root","day","alive","people","person","oldest"] 3 λnd G hu=>
  (aq (lO ["claim","day","root"] nd (bK (ak 0)) (dY (fB (ie (aB (cq hu) (aV 0) (a0 (ju T) G)) (fL (bx (a0 (RE T) G)))))) (ak 0))
   (aq (aI nd (mn rfl T.n13 T.n12 (fP ["claim"] (bK (ak 3)) gO (aV 0))))
   (aq (br (aB (cq hu) (aL fK T.n7 eZ (aJ 4 ao)) a9) (bq (ai a7 ao)))
   (aq (br (fB (ie (aB Fi (aL fK T.n7 eZ (aJ 4 ao)) a9) (fL (aB (cq hu) (a0 (ju T) G) a7)))) (bq (ai a7 (aJ 4 ao))))
   (aq (aI nd (aZ (Vr T) G (aJ 3 (ai (a0 (ju T) G) ao))))
   (aq (aI nd (zm Rt T.n10 (fP ["claim","person"] (bK (ak 3)) (dY (aB (cq hu) (aV 0) (ak 1))) (ak 0)) (Co (RF T) (G.in1.mono (by decide)) rfl) G))
   (aS (bq (ai a7 (aJ 5 (ai (aV 6) ao)))))))))))
theorem RG:Fn P w K mg base 7 "is_held_by" cK:=T.d40.fq T.hX nE ["claimed","root","person","day"] 4 λnd G hu=>
  (aS (bI (cq hu) (gH (a0 (Tz T) G) jM (gY a9)) (bq (ai a7 (aJ 2 ao)))))
theorem Vs:Fn P w K mg base 8 "is_first_death" gs:=T.d41.fqL T.hX jC ["book","known","number","row","deaths"] 3 λnd G hu M=>
  (aq (aI nd (aY (ak 0) (ak 2)))
   (aq (aI nd (aZ (RB T) G (aJ 0 (aJ 1 (ai (bq (ai a7 ao)) (ai (a0 (ju T) G) (ai (a0 (A0 T) G) ao)))))))
   (aS (bI (cq hu) (zm Rt T.n10 (ak 4) (xG (cap:=[0]) (N':=["each","book"]) (by decide +kernel) T.l41 M rfl rfl (Cm (by decide +kernel) rfl rfl rfl rfl rfl) rfl (.cons rfl rfl (Or.inl rfl) rfl (qe (by decide +kernel) rfl) (.nil rfl)) rfl G.in1 (λ_ _ _ _=>rfl) λ_ _ _ _ G=>have hu:=AI G;(a0 (Px T) G)) G) (ak 2)))))
theorem Vt:Fn P w K mg base 10 "counts" nF:=T.d42.fq T.hX z5 ["book","known","so_far","number","row","root"] 4 λnd G hu=>
  (aq (aI nd (aY (ak 0) (ak 3)))
   (aq (br (aB (cq hu) (a0 (tW T) G) a7) (a0 (Vs T) G))
   (aq (br (aB kF (a0 (tW T) G) (bq (ai a7 (ai a7 (ai a7 ao))))) cP)
   (aq (aI nd (Ga (Nz hu) (a0 (R9 T) G) (a0 (ju T) G) ⟨rfl,rfl,rfl,rfl⟩))
   (aq (br (aB pR (ak 5) cz) cP)
   (aq (br (aB (cq hu) (a0 (tW T) G) a7) cP)
   (aS (du (a0 (RC T) G) (c8 (aZ (RG T) G (aJ 2 (aJ 5 (ai (a0 (ju T) G) (ai (a0 (A0 T) G) ao))))))))))))))
theorem T1:Fn P w K mg base 3 "new_claim" gK:=T.d43.fq T.hX p6 ["row","since","number"] 3 λnd G hu=>
  (aS (bq (ai (a0 (ju T) G) (ai (a0 (ju T) G) (aJ 1 (ai cz (aJ 2 ao)))))))
theorem T2:Fn P w K mg base 3 "ended" qm:=T.d44.fq T.hX C5 ["so_far","offices","person","day","left","claim"] 4 λnd G hu=>
  (aq (aI nd (cB ao))
   (aq (nn (bK (ak 0)) (DX 5 nd) dW (bv (iR (fB (dG (aB kF (aV 5) (ak 1)) (dG (aB (xo hu) (aV 5) (ak 2)) (cX (cn (fB (dG (bx (a0 (RE T) G)) (cX (aB Fi (aV 5) (ak 3)))))))))) (bv (qF (i:=4) (ak 5))) (bv (iR (aB kB (aV 5) (ak 3)) (bv (qF (i:=4) (bq (ai (aV 5) (aJ 2 (ai (aV 5) (aJ 3 (ai (aV 5) ao)))))))) jh)))))
   (bv (iS 4))))
theorem Vu:Fn P w K mg base 4 "after_choice" iC:=T.d45.fq T.hX kX ["so_far","row","number","since","left"] 3 λnd G hu=>
  (aq (aI nd (a0 (ju T) G))
   (aq (aI nd (aZ (T2 T) G (aJ 0 (ai (cB (ai (a0 (ju T) G) ao)) (ai (a0 (ju T) G) (aJ 3 ao))))))
   (aS (bg da (ak 4) (cB (ai (a0 (T1 T) G) ao))))))
theorem Vv:Fn P w K mg base 7 "inherited" kY:=T.d46.fq T.hX p7 ["book","known","so_far","heirs","number","person","day","told","office","heir"] 5 λnd G hu=>
  (aq (aI nd (aZ (ju T) G (ai (aY (ak 0) (ak 4)) (ai a7 ao))))
   (aq (aI nd (aZ (A0 T) G (ai (aY (ak 0) (ak 4)) ao)))
   (aq (aI nd (cB ao))
   (aq (Ca [5,6] (nn (bK (mn rfl T.n13 T.n12 (fP ["claim","person","day"] (bK (ak 2)) (dY (fB (ie (aB (cq hu) (aV 0) (ak 1)) (fL (bx (a0 (RE T) G)))))) (aV 0)))) (DX 8 nd) dW (aq (aI nd (Go (Nz hu) (ak 3) (aJ 8 (aJ 5 ao)) ⟨rfl,rfl,rfl,rfl⟩))
   (bv (iR (fB (ie (aB mP (ak 9) cz) (fL (bx (a0 (Tw T) G))))) (bv (qF (i:=7) (bq (aJ 8 (aJ 9 (aJ 6 (ai cz (aJ 4 ao)))))))) jh)))))
   (bv (iS 7))))))
theorem Vw:Fn P w K mg base 8 "after_death" jm:=T.d47.fq T.hX lS ["book","known","so_far","heirs","number","offices","left"] 5 λnd G hu=>
  (aq (lO ["claim"] nd (bK (ak 2)) gO (aV 0))
   (aq (aI nd (aZ (T2 T) G (aJ 2 (aJ 5 (ai (aZ (ju T) G (ai (aY (ak 0) (ak 4)) (ai a7 ao))) (ai (aZ (A0 T) G (ai (aY (ak 0) (ak 4)) ao)) ao))))))
   (aS (bg da (ak 6) (a0 (Vv T) G)))))
theorem Vx:Fn P w K mg base 11 "claims" se:=T.d48.fq T.hX z6 ["book","known","so_far","heirs","number","row"] 2 λnd G hu=>
  (aq (aI nd (cB ao))
   (aq (IZ (i:=3) nd)
   (aq (nn (bK (a0 (Tv T) G)) (DX 4 nd) dW (aq (aI nd (aY (ak 0) (ak 4)))
   (aq (iR (cn (bx (a0 (Vt T) G))) (bv IH) jh)
   (bv (iR (aB (cq hu) (a0 (tW T) G) a7) (bv (aI nd (bg da (ak 2) (cB (ai (aZ (T1 T) G (aJ 5 (ai (a0 (A0 T) G) (aJ 4 ao)))) ao))))) (bv (iR (aB (cq hu) (a0 (tW T) G) a7) (bv (aI nd (a0 (Vu T) G))) (bv (iR (aB (cq hu) (a0 (tW T) G) a7) (bv (Jb (i:=3) (Nz hu) (a0 (ju T) G) (ai (a0 (ju T) G) (ai (a0 (ju T) G) ao)))) (bv (aI nd (a0 (Vw T) G))))))))))))
   (aS (FU FQ T.n13 (ak 2) (Co (Vo T) (G.in1.in1.mono (by decide)) rfl))))))
theorem RH:Fn P w K mg base 2 "is_paper" dB:=T.d49.fq T.hX sf ["book","known","number"] 3 λnd G hu=>
  (aS (du (a0 (RA T) G) (c8 (bI uI (aZ (tW T) G (ai (aY (ak 0) (ak 2)) ao)) (cZ T.k7)))))
theorem T3:Fn P w K mg base 2 "is_leave" gt:=T.d50.fq T.hX sg ["book","known","number"] 3 λnd G hu=>
  (aS (du (a0 (RA T) G) (c8 (bI (cq hu) (aZ (tW T) G (ai (aY (ak 0) (ak 2)) ao)) a7))))
theorem RI:Fn P w K mg base 3 "is_borne" eG:=T.d51.fq T.hX si ["book","known","number"] 3 λnd G hu=>
  (aS (mN (a0 (T3 T) G) (c8 (a0 (RH T) G))))
theorem T4:Fn P w K mg base 1 "covers" iD:=T.d52.fq T.hX sj ["matters","some"] 2 λnd G hu=>
  (aS (bI (cq hu) (bg O9 (ak 0) (ak 1)) (ak 1)))
theorem T5:Fn P w K mg base 3 "reach_bar" iZ:=T.d53.fq T.hX p8 ["row","above"] 2 λnd G hu=>
  (aq (br (cn (bx (aZ (T4 T) G (ai (a0 (ju T) G) (ai (a0 (ju T) G) ao))))) a7)
   (aq (br (fB (ie (aB (cq hu) (a0 (tW T) G) a7) (fL (aB LY (a0 (ju T) G) (a0 (ju T) G))))) a7)
   (aS cz)))
theorem Vy:Fn P w K mg base 8 "office_bar" hG:=T.d54.fq T.hX nG ["claimed","row","root"] 3 λnd G hu=>
  (aq (br (cn (bx (aZ (RG T) G (aJ 0 (aJ 2 (ai (a0 (ju T) G) (ai (a0 (A0 T) G) ao))))))) a7)
   (aS (a0 (T5 T) G)))
theorem Vz:Fn P w K mg base 9 "office_bases" iE:=T.d55.fq T.hX kZ ["book","known","claimed","number","row","bearing"] 4 λnd G hu=>
  (aq (aI nd (aY (ak 0) (ak 3)))
   (aq (lO ["root","claimed","row"] nd (Ct (a0 (R9 T) G)) (dY (aB pR (a0 (Vy T) G) cz)) (ak 0))
   (aS (fP ["root","claimed","row"] (bK (ak 5)) gO (bq (ai a7 (ai (a0 (ju T) G) (ai (aY (aZ (Tz T) G (aJ 1 (aJ 0 (ai (a0 (A0 T) G) ao)))) a9) ao))))))))
theorem V0:Fn P w K mg base 1 "ends_within" jn:=T.d56.fq T.hX lU ["stop","bound"] 2 λnd G hu=>
  (aq (br (aB pR (ak 1) cz) cP)
   (aS (du (bI mP (ak 0) cz) (c8 (bI gV (ak 0) (ak 1))))))
theorem V1:Fn P w K mg base 2 "is_within" ja:=T.d57.fq T.hX p9 ["one","other"] 2 λnd G hu=>
  (aS (du (bI gV (aV 1) (aV 0)) (c8 (aZ (V0 T) G (ai (aV 0) (ai (aV 1) ao))))))
theorem T6:Fn P w K mg base 5 "is_ahead" gu:=T.d58.fq T.hX sk ["book","one","other"] 3 λnd G hu=>
  (aS (bI (OS hu) (a0 (Px T) G) (a0 (Px T) G)))
theorem V2:Fn P w K mg base 6 "leave_bar" jb:=T.d59.fq T.hX pA ["book","number","leave","row","stretch"] 3 λnd G hu=>
  (aq (aI nd (aY (ak 0) (ak 1)))
   (aq (aI nd (aZ (ju T) G (ai (aY (ak 0) (ak 2)) (ai a7 ao))))
   (aq (br (cn (bx (a0 (T6 T) G))) a7)
   (aq (br (fB (dG (cn (bx (aZ (RD T) G (ai (a0 (A0 T) G) (aJ 4 ao))))) (cX (cn (bx (aZ (V1 T) G (ai (a0 (ju T) G) (aJ 4 ao)))))))) a7)
   (aS (aZ (T5 T) G (aJ 3 (ai (aY (ak 0) (ak 2)) ao))))))))
theorem V3:Fn P w K mg base 3 "leaves_to" la:=T.d60.fq T.hX pB ["book","known","person","leaves"] 3 λnd G hu=>
  (aq (lO ["number","book","known"] nd (bK (a0 (Pw T) G)) (dY (bx (a0 (T3 T) G))) (ak 0))
   (aS (fP ["number","person","book"] (bK (ak 3)) (dY (aB (cq hu) (aZ (ju T) G (ai (aY (ak 2) (ak 0)) (ai a7 ao))) (ak 1))) (ak 0))))
theorem V4:Fn P w K mg base 7 "leave_bases" jo:=T.d61.fq T.hX lV ["book","known","number","leaves"] 3 λnd G hu=>
  (aq (aI nd (aZ (V3 T) G (aJ 0 (aJ 1 (ai (aZ (ju T) G (ai (aY (ak 0) (ak 2)) (ai a7 ao))) ao)))))
   (aS (fP ["leave","book","number"] (bK (ak 3)) (dY (aB pR (a0 (V2 T) G) cz)) (bq (ai a7 (aJ 0 ao))))))
theorem V5:Fn P w K mg base 6 "copy_bases" jU:=T.d62.fq T.hX nH ["book","known","number","of"] 3 λnd G hu=>
  (aq (aI nd (aZ (ju T) G (ai (aY (ak 0) (ak 2)) (ai a7 ao))))
   (aq (br (fB (ie (bx (a0 (RH T) G)) (fL (bx (a0 (T6 T) G))))) (cB (ai (bq (ai a7 (aJ 3 ao))) ao)))
   (aS (cB ao))))
theorem V6:Fn P w K mg base 10 "bases_by" fF:=T.d63.fqL T.hX sn ["book","known","claimed","number","found"] 4 λnd G hu M=>
  (aq (br (cn (bx (a0 (RI T) G))) (cB ao))
   (aq (br (aB (cq hu) (aZ (tW T) G (ai (aY (ak 0) (ak 3)) ao)) a7) (a0 (V5 T) G))
   (aq (aI nd (bg da (a0 (Vz T) G) (a0 (V4 T) G)))
   (aS (FU (Gs hu) T.n13 (ak 4) (xG (cap:=[]) (N':=["base"]) (by decide +kernel) T.l63 M rfl rfl (Cm (by decide +kernel) rfl rfl rfl rfl rfl) rfl (.nil rfl) rfl G.in1.in1 (λ_ _ _ _=>rfl) λ_ _ _ _ G=>have hu:=AI G;(bq (ai (aY (ak 0) (O4 OD a9)) (aJ 0 ao)))))))))
theorem V7:Fn P w K mg base 8 "may_call" mz:=T.d64.fq T.hX sq ["book","known","claimed","call","number","row","caller","over"] 5 λnd G hu=>
  (aq (aI nd (aY (ak 0) (ak 4)))
   (aq (aI nd (aZ (ju T) G (ai (aY (ak 0) (ak 3)) (ai a7 ao))))
   (aq (br (aB (cq hu) (ak 6) (a0 (ju T) G)) cP)
   (aq (br (aB (cq hu) (a0 (tW T) G) a7) cP)
   (aq (lO ["root","row"] nd (Ct (a0 (R9 T) G)) (dY (bx (aZ (T4 T) G (ai (a0 (ju T) G) (ai (a0 (ju T) G) ao))))) (ak 0))
   (aS (aL K0 T.n1 K1 (ai (fP ["root","claimed","caller","book","call"] (bK (ak 7)) gO (aZ (RG T) G (aJ 1 (aJ 0 (aJ 2 (ai (aZ (A0 T) G (ai (aY (ak 3) (ak 4)) ao)) ao)))))) ao))))))))
theorem V8:Fn P w K mg base 10 "calls_in" jV:=T.d65.fq T.hX sr ["book","known","claimed","call","number","day","row"] 6 λnd G hu=>
  (aq (aI nd (aY (ak 0) (ak 3)))
   (aq (br (fB (dG (aB (xo hu) (a0 (tW T) G) a7) (dG (aB (xo hu) (a0 (ju T) G) (ak 4)) (cX (aB Fi (a0 (A0 T) G) (ak 5)))))) cP)
   (aS (du (a0 (RC T) G) (c8 (a0 (V7 T) G))))))
theorem V9:Fn P w K mg base 11 "calls_by" m8:=T.d66.fq T.hX su ["book","known","claimed","number","day"] 5 λnd G hu=>
  (aq (br (cn (bx (a0 (RI T) G))) (cB ao))
   (aS (fP ["call","book","known","claimed","number","day"] (bK (a0 (Pw T) G)) (dY (bx (a0 (V8 T) G))) (ak 0))))
theorem VA:Fn P w K mg base 12 "is_fit" nI:=T.d67.fq T.hX z7 ["book","known","claimed","number","day"] 5 λnd G hu=>
  (aq (br (fB (dG (cn (bx (a0 (RC T) G))) (cX (aB Fi (aZ (A0 T) G (ai (aY (ak 0) (ak 3)) ao)) (ak 4))))) cP)
   (aS (bI (cq hu) (aL fK T.n7 eZ (ai (a0 (V9 T) G) ao)) a9)))
theorem VB:Fn P w K mg base 13 "links" xP:=T.d68.fq T.hX C6 ["book","known","day","claimed","found","number"] 3 λnd G hu=>
  (aq (Iz (i:=3) nd (a0 (Vx T) G))
   (aq (Cs (i:=4) nd)
   (aq (nn (bK (a0 (Tv T) G)) (DX 5 nd) dW (bv (iR (fB (ie (bx (a0 (RI T) G)) (fL (bx (a0 (VA T) G))))) (bv (Gz (i:=4) (Nz hu) (a0 (V6 T) G) (ak 5))) jh)))
   (bv (iS 4)))))
theorem VC:Fn P w K mg base 1 "bears" nJ:=T.d69.fq T.hX C7 ["base","among"] 2 λnd G hu=>
  (aS (mN (bI (cq hu) (aV 0) a7) (c8 (Mw (Nz hu) (aV 0) (ak 1)))))
theorem VD:Fn P w K mg base 2 "stood" xQ:=T.d70.fq T.hX C8 ["found","stands","number","resting"] 1 λnd G hu=>
  (aq (Cs (i:=1) nd)
   (aq (nn (Gy (ak 0)) (A2 rfl (jw (DX 2 nd) (jw (DX 3 nd) wO))) OM (bv (iR (bx (aL K0 T.n1 K1 (ai (fP ["base","stands"] (bK (ak 3)) gO (a0 (VC T) G)) ao))) (bv (Ja (i:=1) (Nz hu) cP (ak 2))) jh)))
   (bv (iS 1))))
theorem T7:Fn P w K mg base 14 "standing" gy:=T.d71.fq T.hX sv ["book","known","day"] 3 λnd G hu=>
  (aS (aL (DZ rfl) T.n13 yZ (ai (aZ (VD T) G (ai (a0 (VB T) G) ao)) ao)))
theorem T8:Fn P w K mg base 3 "paper_behind" df:=T.d72.fq T.hX lb ["book","number","row"] 2 λnd G hu=>
  (aq (aI nd (aY (ak 0) (ak 1)))
   (aq (y8 1000 PassesOwn.never (aB (cq hu) (a0 (tW T) G) a7) (bv (aI nd (aY (ak 0) (a0 (ju T) G)))))
   (bv (iS 2))))
theorem VE:Fn P w K mg base 15 "holding" lA:=T.d73.fq T.hX wv ["book","known","day","stands"] 3 λnd G hu=>
  (aq (lO ["number","book","known"] nd (bK (a0 (T7 T) G)) (dY (bx (a0 (RH T) G))) (ak 0))
   (aS (fP ["number","day","book"] (bK (ak 3)) (dY (bx (aZ (RD T) G (aJ 1 (ai (aZ (ju T) G (ai (a0 (T8 T) G) (ai a7 ao))) ao))))) (ak 0))))
theorem VF:Fn P w K mg base 4 "whom_of" lB:=T.d74.fq T.hX ww ["book","number"] 2 λnd G hu=>
  (aS (aZ (ju T) G (ai (a0 (T8 T) G) (ai a7 ao))))
theorem T9:FnD P w K mg base 16 "holds" lC:=T.d75.fqD T.hX C9 ["book","known","day","number","person"] 5 λnd G hu=>
  (aq (br (aB kF (ak 3) (a0 (VE T) G)) cP)
   (aS (mN (bI pR (ak 4) cz) (c8 (bI uI (a0 (VF T) G) (bq (ai cz (aJ 4 ao))))))))
theorem Q1:Fn P w K mg base 1 "_law_cell_at" bX:=T.d76.fq T.hX pC ["_law_script","_law_k"] 2 λnd G hu=>
  (aq (br (aB kB (ak 1) (aL fK T.n7 eZ (aJ 0 ao))) (aY (ak 0) (ak 1)))
   (aS a9))
theorem RJ:Fn P w K mg base 1 "_law_stream" fG:=T.d77.fq T.hX sw ["_law_cell","_law_salt","_law_many","_law_found","_law_number","_law_k"] 3 λnd G hu=>
  (aq (aI nd (cB ao))
   (aq (aI nd (bg dn (bg da (bg da (bg qH (bg dn (ak 0) a9) a9) (bg qH (bg qH (ak 1) (ak 1)) a9)) a9) a9))
   (aq (Gv (qL T.n11 (ak 2)) (DX 5 nd) dW (aq (aI nd (bg dn (bg da (bg da (bg da (bg qH (ak 4) (ak 4)) (bg qH a9 (ak 4))) (ak 5)) (ak 1)) a9))
   (bv (qF (i:=3) (ak 4)))))
   (bv (iS 3)))))
theorem VG:Fn P w K mg base 1 "_law_stretch" jc:=T.d78.fq T.hX pE ["_law_x","_law_start"] 1 λnd G hu=>
  (aq (aI nd (bg dn (ak 0) a9))
   (aq (br (aB (cq hu) (bg dn (bg qE (ak 0) a9) a9) a9) (bq (aJ 1 (ai cz ao))))
   (aS (bq (aJ 1 (ai (bg da (bg da (ak 1) a9) (bg dn (bg qE (ak 0) a9) a9)) ao))))))
theorem VH:Fn P w K mg base 2 "_law_deed" sx:=T.d79.fq T.hX zF ["_law_xs","_law_k","_law_day","_law_people","_law_by","_law_other","_law_matters","_law_part","_law_near","_law_whom","_law_word"] 3 λnd G hu=>
  (aq (aI nd (cB (ai a7 (ai a7 (ai a7 (ai a7 ao))))))
   (aq (aI nd (aY (ak 3) (bg dn (bg dn (aV 0) a9) a9)))
   (aq (aI nd (aY (ak 3) (bg dn (aV 0) a9)))
   (aq (aI nd (by refine aY (hs:=?_) ?_ ?_;refine cB ?_;refine dH ?_;refine dH ?_;refine dH ?_;refine dH ?_;refine dH ?_;refine dH ?_;refine dH ?_;exact ao;exact(bg dn (aV 0) a9);intro _ _;rfl))
   (aq (aI nd (aZ (VG T) G (ai (aV 0) ao)))
   (aq (aI nd (aL OG T.n9 OE (dH (ai (bg y7 (bg y7 (ak 1) a9) (bg dn (aV 0) a9)) ao))))
   (aq (aI nd (aY (cB (ai cz (aJ 5 ao))) (bg dn (aV 0) a9)))
   (aq (aI nd (bg dn (aV 0) a9))
   (aq (br (aB kB (ak 10) a9) (bq (ai a7 (aJ 2 (aJ 4 (aJ 5 (aJ 6 (aJ 7 (ai (bg dn (aV 0) a9) ao)))))))))
   (aq (br (aB kB (ak 10) a9) (bq (ai a7 (aJ 2 (aJ 4 (dH (aJ 7 (aJ 9 (ai (gH (bq (ai a7 (ai a7 ao))) jM (gY (bg da a9 (bg dn (bg qE (aV 0) a9) a9)))) ao)))))))))
   (aq (br (aB (cq hu) (ak 10) a9) (bq (ai a7 (aJ 2 (aJ 4 (dH (aJ 7 (aJ 9 (aJ 8 (ai (bq (ai (bq (dH (ai a7 ao))) ao)) ao))))))))))
   (aq (br (aB kB (ak 10) a9) (bq (ai a7 (aJ 2 (aJ 4 (aJ 8 ao))))))
   (aq (br (aB (cq hu) (ak 10) a9) (bq (ai a7 (aJ 2 (aJ 4 (aJ 8 ao))))))
   (aS (bq (ai (aY (cB (ai a7 (ai a7 (ai a7 ao)))) (bg dn (aV 0) a9)) (aJ 2 (aJ 5 ao))))))))))))))))))
theorem VI:Fn P w K mg base 3 "_law_rows" sy:=T.d80.fq T.hX zG ["_law_script","_law_first","_law_rows_here","_law_cells","_law_cell","_law_xs","_law_day","_law_at"] 1 λnd G hu=>by
  refine @aq _ _ _ _ _ ?_ ?_
  ·exact(aI nd (aZ (Q1 T) G (aJ 0 (dH ao))))
  refine @aq _ _ _ _ _ ?_ ?_
  ·exact(by refine @aI _ _ _ _ 2 _ _ nd ?_ rfl (by first|exact Or.inl rfl|exact Or.inr rfl) rfl (by first|exact .inl rfl|exact .inr rfl);refine @cB _ _ _ _ ?_;refine Ar ?_ ?_;refine @bq _ _ _ _ _ ?_;refine @dH _ _ _ _ _ _ ?_;refine Ar ?_ ?_;refine @bq _ _ _ _ _ ?_;refine pY ?_ ?_;exact a7;refine pY ?_ ?_;exact a7;refine @dH _ _ _ _ _ _ ?_;refine @dH _ _ _ _ _ _ ?_;refine pY ?_ ?_;exact a7;exact ao;exact ao;refine Ar ?_ ?_;refine @bq _ _ _ _ _ ?_;refine @dH _ _ _ _ _ _ ?_;refine Ar ?_ ?_;refine @bq _ _ _ _ _ ?_;refine pY ?_ ?_;exact a7;refine @dH _ _ _ _ _ _ ?_;refine pY ?_ ?_;exact a7;refine pY ?_ ?_;exact a7;exact ao;exact ao;exact ao)
  refine @aq _ _ _ _ _ ?_ ?_
  ·exact(iR (aB (cq hu) (bg dn (ak 1) a9) a9) (bv (by refine @aI _ _ _ _ 2 _ _ nd ?_ rfl (by first|exact Or.inl rfl|exact Or.inr rfl) rfl (by first|exact .inl rfl|exact .inr rfl);refine @bg _ _ _ _ _ _ _ _ da ?_ ?_;exact(ak 2);refine @cB _ _ _ _ ?_;refine Ar ?_ ?_;refine @bq _ _ _ _ _ ?_;refine @dH _ _ _ _ _ _ ?_;refine Ar ?_ ?_;refine @bq _ _ _ _ _ ?_;refine pY ?_ ?_;exact a7;refine pY ?_ ?_;exact a7;refine @dH _ _ _ _ _ _ ?_;refine @dH _ _ _ _ _ _ ?_;refine pY ?_ ?_;exact a7;exact ao;exact ao;refine Ar ?_ ?_;refine @bq _ _ _ _ _ ?_;refine @dH _ _ _ _ _ _ ?_;refine Ar ?_ ?_;refine @bq _ _ _ _ _ ?_;refine pY ?_ ?_;exact a7;refine @dH _ _ _ _ _ _ ?_;refine pY ?_ ?_;exact a7;refine pY ?_ ?_;exact a7;exact ao;exact ao;exact ao)) jh)
  refine @aq _ _ _ _ _ ?_ ?_
  ·exact(aI nd (gH (ak 0) (gY a9) (gY a9)))
  refine @aq _ _ _ _ _ ?_ ?_
  ·exact(iR (aB (cq hu) (bg dn (aZ (Q1 T) G (aJ 0 (dH ao))) a9) a9) (bv (aI nd (bg da (ak 3) (aZ (RJ T) G (ai (aZ (Q1 T) G (aJ 0 (dH ao))) (dH (ai (bg y7 a9 (aL fK T.n7 eZ (aJ 3 ao))) ao))))))) jh)
  refine @aq _ _ _ _ _ ?_ ?_
  ·exact(Ca [3] (nn (bK (ak 3)) (DX 4 nd) dW (aq (aI nd (aZ (RJ T) G (aJ 4 (ai (aL fK T.n7 eZ (aJ 2 ao)) (dH ao))))) (aq (aI nd (bg dn (aV 5) a9)) (aq (aI nd (bg da (ak 6) (aY (cB (dH (dH (dH (ai (bg dn (bg qE (aV 5) a9) a9) ao))))) (bg dn (bg qE (aV 5) a9) a9)))) (bv (qF (i:=2) (bq (aJ 7 (ai (aZ (VH T) G (aJ 5 (ai (aL fK T.n7 eZ (aJ 2 ao)) (aJ 6 ao)))) ao))))))))))
  exact(bv (iS 2))
theorem VJ:Fn P w K mg base 1 "_law_due" qo:=T.d81.fq T.hX CA ["_law_rows_here","_law_stands","_law_number","_law_day","_law_person","_law_at","_law_part","_law_whom"] 5 λnd G hu=>
  (aq (br (fB (dG (aB kF (ak 2) (ak 1)) (cX (aB (cq hu) (aY (aY (aY (ak 0) (ak 2)) a9) a9) a7)))) cP)
   (aq (aI nd (ak 2))
   (aq (y8 1000 PassesOwn.never (aB (cq hu) (aY (aY (aY (ak 0) (ak 5)) a9) a9) a7) (bv (aI nd (aY (aY (aY (ak 0) (ak 5)) a9) a9))))
   (aq (aI nd (aY (aY (aY (ak 0) (ak 5)) a9) a9))
   (aq (br (fB (dG (aB kB (ak 3) (aV 6)) (cX (fB (ie (aB mP (aV 6) cz) (fL (aB LY (ak 3) (aV 6)))))))) cP)
   (aq (aI nd (aY (aY (aY (ak 0) (ak 5)) a9) a9))
   (aS (mN (bI pR (ak 4) cz) (mN (bI pR (ak 7) cz) (c8 (bI (cq hu) (ak 7) (ak 4))))))))))))
theorem head {fa:Addr}(O:mg "law" = some (.ref fa)):∃fd:FuncData,(∀(s:Shared)(u:Value),BindsTo s fd ⟨[u],[]⟩ [("_law_script",u)])/\∀base:Heap,K.In base->base.Ns mainGlobals mg->tX P w K mg base yh 17 fa fd ["_law_script"] (Fk K F_law):=by
 have S:FnScope ["_law_script","_law_rows_here","_law_book","_law_xs","_law_known","_law_day","_law_stands","_law_number","_law_person","_law_found"] ["_law_script"] (aK (cV 105)):=by refine⟨rfl,rfl,rfl,?_,rfl,?_,?_⟩<;>decide +kernel
 have ⟨h,X,G⟩:=T.hX;exact cD.law T.d82 X G O S (λ_ _ _ _ _ _ u=>rfl) λbase U nb f cS A outer s H E M=>have hu:=AI M;have nd:=S.nd;(show uE _ _ KE from
  (aq (aI nd (a0 (VI T) M))
   (aq (aI nd (a0 (Vn T) M))
   (aq (aI nd (aZ (RJ T) M (ai (aZ (Q1 T) M (aJ 0 (dH ao))) (dH (dH ao)))))
   (aq (Ca [3] (nn (bK (cB (dH (ai (bg dn (aV 3) a9) ao)))) (DX 4 nd) dW (bv (Ca [3] (nn (bK (cB (ai (bg dn (aV 3) a9) (ai (bg da a9 (bg dn (aV 3) a9)) ao)))) (DX 5 nd) dW (aq (aI nd (a0 (T7 T) M))
   (bv (Gv (qL T.n11 (aL fK T.n7 eZ (aJ 1 ao))) (DX 7 nd) dW (aq (aI nd (aY (cB (ai cz (ai a7 (ai (aY (cB (ai a7 (ai a7 (ai a7 (ai a7 ao))))) (bg dn (aV 3) a9)) ao)))) (bg dn (bg da (ak 7) (aV 3)) a9)))
   (aq (aI nd (aZ ((T9 T)).fn M (aJ 2 (aJ 4 (aJ 5 (aJ 7 (aJ 8 ao)))))))
   (aq (br (fB (dG (cn (bx (aL bL T.n6 bJ (aJ 9 (ai (iT T.n2 Fm) ao))))) (cX (aB (xo hu) (ak 9) (a0 (VJ T) M))))) cP)
   (bv (br (fB (ie (aB pR (ak 8) cz) (fL (aB (xo hu) (OZ (T9 T) M (aJ 2 (aJ 4 (aJ 5 (aJ 7 ao))))) (ak 9))))) cP)))))))))))))
   (aS cP))))))
end
end Lw
end
namespace PySem.W.Fast
def tw6650873479911117358:=()
def tw1928903807582555899:=()
def tw8223297973063398732:=()
def tw5360681078973978112:=()
def tw5512028649971257430:=()
def tw17806865459151284181:=()
def tw8833753209414378719:=()
def tw16150372239530487452:=()
def tw11797706570496023315:=()
def tw13539171988597408413:=()
def tw10783893653774075612:=()
def tw4783891580116507501:=()
def tw18229029742524821924:=()
def tw16737651500257138311:=()
def tw8192154473737313190:=()
def tw7501364074751119245:=()
def tw17375454887470692664:=()
def tw9827474209536163884:=()
def tw1507300115736092524:=()
def tw2593556169967634679:=()
def tw8698585494055285880:=()
def tw1224605452361048977:=()
def tw12565911731890539504:=()
def tw17510431233472920161:=()
def tw7961589128788159698:=()
def tw14512693599035538547:=()
def tw13292117155108156649:=()
def tw8173506958615021517:=()
def tw8498920679449696289:=()
def tw14923215618297550807:=()
def tw4064377270862476187:=()
def tw13596747157913247626:=()
def tw17356629599189874232:=()
def tw14843692480157360374:=()
def tw9489187971884637512:=()
def tw16309736673274943228:=()
def tw17501709648635923341:=()
def tw3103874482800894345:=()
def tw3970406136451344285:=()
def tw8441880120327181062:=()
def tw1237040158261628887:=()
def tw11909088402617741789:=()
def tw15674449665881262443:=()
def tw16671907475948608915:=()
def tw7025352621093531947:=()
def tw6661657286825559131:=()
def tw10347928413303190296:=()
def tw14734443286591288983:=()
def tw15424613886237292392:=()
def tw13106225225622944024:=()
def tw1834514639980068929:=()
def tw9276538130188460487:=()
def tw4539035707838255674:=()
def tw15982014035837054571:=()
def tw12048598152303734760:=()
def tw10444987027020704715:=()
def tw17667978561782593664:=()
def tw2197022222632757385:=()
def tw2387097200073084657:=()
def tw67019522960671262:=()
def tw8616737543539267557:=()
def tw11216821009425888990:=()
def tw9149848609940497394:=()
def tw15685882089758506793:=()
def tw3045586367673218697:=()
def tw1955737703576639283:=()
def tw11007240268070277591:=()
def tw601913215566516351:=()
def tw14454088892057739006:=()
def tw18444512428405236335:=()
def tw8822408656354867211:=()
def tw17946165978214756619:=()
def tw16317788303173375935:=()
def tw2317792796853077136:=()
def tw17953946098072534013:=()
def tw881914827783225321:=()
def tw17518123693341867840:=()
def tw6197098409511562943:=()
def tw10799919167449464494:=()
def tw17326323704523311386:=()
def tw11092565516884080164:=()
def tw2220742176349034076:=()
def tw6251083115075044559:=()
def tw8294267014728764425:=()
def tw13534847607100972173:=()
def tw110504674657404727:=()
def tw17321589038954824902:=()
def tw5508734083863975800:=()
def tw13677022519003378066:=()
def tw10472220668619245253:=()
def tw11359188779369788443:=()
def tw10481526748007336385:=()
def tw14891382155241742332:=()
def tw10052144384112807703:=()
def tw11808637490053949167:=()
def tw15123513550020081554:=()
def tw3704220363760785649:=()
def tw17838498876952739849:=()
def tw15745928571168969488:=()
def tw7735555978464225037:=()
def tw2721262474052644996:=()
def tw3410633240475708667:=()
def tw3067758687563149088:=()
def tw8119960992166316050:=()
def tw11502233673722637369:=()
def tw13083523735575660005:=()
def tw17808858570348612921:=()
def tw16025415356407148923:=()
def tw3316161912353139890:=()
def tw3472478046625742200:=()
def tw10826276843594429165:=()
def tw9759422784828497324:=()
def tw956713102714951832:=()
def tw15539066299502452946:=()
def tw16572302484852749660:=()
def tw8695845976297318760:=()
def tw3124124106990337211:=()
def tw667925873079371405:=()
def tw287579598363933643:=()
def tw12212249522402870593:=()
def tw8458928581814748791:=()
def tw14722270546814366999:=()
def tw7050870213581996167:=()
def tw17016641088132938209:=()
def tw3718486803749045248:=()
def tw13439510017169368091:=()
def tw13441270823770467975:=()
def tw17018963372423681051:=()
def tw4510147827000405312:=()
def tw8051028257353131391:=()
def tw7342697515802363260:=()
def tw14525232774921071476:=()
def tw3891537381034375261:=()
def tw13647643854266151026:=()
def tw1478029745667616495:=()
def tw4846517781172737956:=()
def tw13598534804671512153:=()
def tw4216163480839420441:=()
def tw7200550741154049958:=()
def tw2060083467062462085:=()
def tw13099872955674419594:=()
def tw621953110165218291:=()
def tw3235906589527888301:=()
def tw11811714307837388151:=()
def tw3134853344135704463:=()
def tw5530943856371768097:=()
def tw14706179358850192540:=()
def tw14353335295753654901:=()
def tw17802848749960547470:=()
def tw534573288961350387:=()
def tw4498352510722240639:=()
def tw13820680309621843993:=()
def tw9535394439824935427:=()
def tw15790383083193663171:=()
def tw11049299121210848803:=()
def tw2497537618860316313:=()
def tw9856200463614820873:=()
def tw15016024124787633241:=()
def tw9029370342724866637:=()
def tw6963889824921453767:=()
def tw3391376821466609753:=()
def tw14296719640823799114:=()
def tw8590034851298201979:=()
def tw695917795937254374:=()
def tw5447055430531656430:=()
def tw10939494875319081509:=()
def tw15247863296803246770:=()
def tw18050131305286021992:=()
def tw2169645948849152501:=()
end PySem.W.Fast
open PySem PySem.W PyProof.Rows
set_option maxRecDepth 100000 in
set_option maxHeartbeats 0 in
theorem PySem.Challenge.cw_sealchain_k41_days_on_which_papers_hold_holds : PySem.Challenge.rw_sealchain_k41_days_on_which_papers_hold.Holds := by
 w_on; o_law; k_head; (case hw => w_witness2)
 k_fill
 refine' DL.walkD (l := PySem.Challenge.rw_sealchain_k41_days_on_which_papers_hold) (k := 17) (x := ("_law_script" : PySem.Str)) (f := Lw.F_law) (L := [(("in_order" : PySem.Str), ?t0), (("has_seal" : PySem.Str), ?t1), (("is_first_death" : PySem.Str), ?t2), (("bases_by" : PySem.Str), ?t3)]) rfl rfl ⟨rfl, by decide, by decide⟩ (fun w h Y => PySem.W.km_in_of Y) ?T ?D ?F Lw.law_true
 case T =>
  intro w
  refine' DL.tabs_fit ?h0 ?h1 ?h2 ?h3 ?ap ?nt
  (case h0 => refine' DL.tab_yes ?a ?l ?c ?m ?v; (case a => k_is); (case l => k_is); (case c => exact rfl); (case m => k_is); (case v => exact rfl))
  (case h1 => refine' DL.tab_yes ?a ?l ?c ?m ?v; (case a => k_is); (case l => k_is); (case c => exact rfl); (case m => k_is); (case v => exact rfl))
  (case h2 => refine' DL.tab_yes ?a ?l ?c ?m ?v; (case a => k_is); (case l => k_is); (case c => exact rfl); (case m => k_is); (case v => exact rfl))
  (case h3 => refine' DL.tab_yes ?a ?l ?c ?m ?v; (case a => k_is); (case l => k_is); (case c => exact rfl); (case m => k_is); (case v => exact rfl))
  (case ap => decide)
  (case nt => kernel_rfl)
 case D => kernel_rfl
 case F =>
  intro w mg fa h KX G hmg
  refine' Lw.head ⟨⟨h, KX, G⟩, ?d0, ?d1, ?d2, ?d3, ?d4, ?d5, ?d6, ?d7, ?d8, ?d9, ?d10, ?d11, ?d12, ?d13, ?d14, ?d15, ?d16, ?d17, ?d18, ?d19, ?d20, ?d21, ?d22, ?d23, ?d24, ?d25, ?d26, ?d27, ?d28, ?d29, ?d30, ?d31, ?d32, ?d33, ?d34, ?d35, ?d36, ?d37, ?d38, ?d39, ?d40, ?d41, ?d42, ?d43, ?d44, ?d45, ?d46, ?d47, ?d48, ?d49, ?d50, ?d51, ?d52, ?d53, ?d54, ?d55, ?d56, ?d57, ?d58, ?d59, ?d60, ?d61, ?d62, ?d63, ?d64, ?d65, ?d66, ?d67, ?d68, ?d69, ?d70, ?d71, ?d72, ?d73, ?d74, ?d75, ?d76, ?d77, ?d78, ?d79, ?d80, ?d81, ?d82, PySem.W.mg_none_of KX G ?z0, PySem.W.mg_none_of KX G ?z1, PySem.W.mg_none_of KX G ?z2, PySem.W.mg_none_of KX G ?z3, PySem.W.mg_none_of KX G ?z4, PySem.W.mg_none_of KX G ?z5, PySem.W.mg_none_of KX G ?z6, PySem.W.mg_none_of KX G ?z7, PySem.W.mg_none_of KX G ?z8, PySem.W.mg_none_of KX G ?z9, PySem.W.mg_none_of KX G ?z10, PySem.W.mg_none_of KX G ?z11, PySem.W.mg_none_of KX G ?z12, PySem.W.mg_none_of KX G ?z13, PySem.W.mg_none_of KX G ?z14, PySem.W.mg_none_of KX G ?z15, PySem.W.mg_none_of KX G ?z16, DL.kc_of KX G ?k0, DL.kc_of KX G ?k1, DL.kc_of KX G ?k2, DL.kc_of KX G ?k3, DL.kc_of KX G ?k4, DL.kc_of KX G ?k5, DL.kc_of KX G ?k6, DL.kc_of KX G ?k7, DL.kd_of KX G ?k8, DL.kc_of KX G ?k9, DL.kc_of KX G ?k10, DL.kc_of KX G ?k11, ?q0, ?q1, ?q2, ?q3⟩ hmg
  iterate 75 (refine' DL.def_mk ?a ?l ?c ?k; (case a => k_is); (case l => k_is); (case c => k_is); (case k => k_is))
  (case d75 => refine' DL.defD_mk ?a ?l ?c ?k ?t; (case a => k_is); (case l => k_is); (case c => k_is); (case k => k_is); (case t => k_is))
  iterate 7 (refine' DL.def_mk ?a ?l ?c ?k; (case a => k_is); (case l => k_is); (case c => k_is); (case k => k_is))
  (case z0 => k_is)
  (case z1 => k_is)
  (case z2 => k_is)
  (case z3 => k_is)
  (case z4 => k_is)
  (case z5 => k_is)
  (case z6 => k_is)
  (case z7 => k_is)
  (case z8 => k_is)
  (case z9 => k_is)
  (case z10 => k_is)
  (case z11 => k_is)
  (case z12 => k_is)
  (case z13 => k_is)
  (case z14 => k_is)
  (case z15 => k_is)
  (case z16 => k_is)
  (case k0 => refine' DL.const_int ?e; (case e => k_is))
  (case k1 => refine' DL.const_int ?e; (case e => k_is))
  (case k2 => refine' DL.const_int ?e; (case e => k_is))
  (case k3 => refine' DL.const_int ?e; (case e => k_is))
  (case k4 => refine' DL.const_int ?e; (case e => k_is))
  (case k5 => refine' DL.const_int ?e; (case e => k_is))
  (case k6 => refine' DL.const_int ?e; (case e => k_is))
  (case k7 => refine' DL.const_tup ?e ?l ?v; (case e => k_is); (case l => k_is); (case v => decide +kernel))
  (case k8 => refine' DL.const_dict ?e ?l ?r ?s; (case e => k_is); (case l => k_is); (case r => refine' (DL.CRows.tup rfl ?l0 ?f0 (DL.CRows.tup rfl ?l1 ?f1 (DL.CRows.tup rfl ?l2 ?f2 (DL.CRows.tup rfl ?l3 ?f3 (DL.CRows.tup rfl ?l4 ?f4 (DL.CRows.tup rfl ?l5 ?f5 (DL.CRows.tup rfl ?l6 ?f6 (DL.CRows.tup rfl ?l7 ?f7 (DL.CRows.tup rfl ?l8 ?f8 (DL.CRows.tup rfl ?l9 ?f9 (DL.CRows.tup rfl ?l10 ?f10 (DL.CRows.tup rfl ?l11 ?f11 DL.CRows.nil)))))))))))); (case l0 => k_is); (case f0 => decide +kernel); (case l1 => k_is); (case f1 => decide +kernel); (case l2 => k_is); (case f2 => decide +kernel); (case l3 => k_is); (case f3 => decide +kernel); (case l4 => k_is); (case f4 => decide +kernel); (case l5 => k_is); (case f5 => decide +kernel); (case l6 => k_is); (case f6 => decide +kernel); (case l7 => k_is); (case f7 => decide +kernel); (case l8 => k_is); (case f8 => decide +kernel); (case l9 => k_is); (case f9 => decide +kernel); (case l10 => k_is); (case f10 => decide +kernel); (case l11 => k_is); (case f11 => decide +kernel)); (case s => decide +kernel))
  (case k9 => refine' DL.const_tup ?e ?l ?v; (case e => k_is); (case l => k_is); (case v => decide +kernel))
  (case k10 => refine' DL.const_tup ?e ?l ?v; (case e => k_is); (case l => k_is); (case v => decide +kernel))
  (case k11 => refine' DL.const_tup ?e ?l ?v; (case e => k_is); (case l => k_is); (case v => decide +kernel))
  (case q0 => refine' DL.lam_mk ?a ?l ?c ?m ?v1 ?v2 ?v3 ?v4 ?v5 ?v6 ?v7; (case a => k_is); (case l => k_is); (case c => exact rfl); (case m => k_is); (case v1 => exact rfl); (case v2 => exact rfl); (case v3 => exact rfl); (case v4 => exact rfl); (case v5 => exact rfl); (case v6 => exact rfl); (case v7 => decide))
  (case q1 => refine' DL.lam_mk ?a ?l ?c ?m ?v1 ?v2 ?v3 ?v4 ?v5 ?v6 ?v7; (case a => k_is); (case l => k_is); (case c => exact rfl); (case m => k_is); (case v1 => exact rfl); (case v2 => exact rfl); (case v3 => exact rfl); (case v4 => exact rfl); (case v5 => exact rfl); (case v6 => exact rfl); (case v7 => decide))
  (case q2 => refine' DL.lam_mk ?a ?l ?c ?m ?v1 ?v2 ?v3 ?v4 ?v5 ?v6 ?v7; (case a => k_is); (case l => k_is); (case c => exact rfl); (case m => k_is); (case v1 => exact rfl); (case v2 => exact rfl); (case v3 => exact rfl); (case v4 => exact rfl); (case v5 => exact rfl); (case v6 => exact rfl); (case v7 => decide))
  (case q3 => refine' DL.lam_mk ?a ?l ?c ?m ?v1 ?v2 ?v3 ?v4 ?v5 ?v6 ?v7; (case a => k_is); (case l => k_is); (case c => exact rfl); (case m => k_is); (case v1 => exact rfl); (case v2 => exact rfl); (case v3 => exact rfl); (case v4 => exact rfl); (case v5 => exact rfl); (case v6 => exact rfl); (case v7 => decide))

